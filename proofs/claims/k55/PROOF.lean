import PyProof.Rows.All
import Wide.All
import OpenK.AllK
import Wide.FinOn
import PyProof.ReprRoads
import KE.GoesMore
import HandS.ForMost
import HandS.Evl
import HandS.IsInst
import HandS.Zip
import HandS.WideBits
import HandS.EndBits
import HandS.More
import HandS.Walk
import HandS.TupAny
import HandS.ExcInit
import HandS.ExcIs
import HandS.ExcField
import HandS.WordsExc
import KE.KExcSuper
import KE.KExcInit
import HandS.ExcOwn
import PyProof.ExcBaseAll.LookupError
import HandS.OwnEq
import HandS.NamedTupGet
import HandS.CallSlots
import HandS.Defaults
import HandS.MakeKwOnly
import HandS.FStr
import KE.KExcIs
import HandS.Style
import HandS.DictComp
import KE.SortData
import PyProof.Rows.StrMeet
import PyProof.Rows.SortWalk
import HandS.HotCalls
import KE.KEqDict
import PyProof.NeKinds
import PyProof.P3In
import KE.KDictCopyH
import PyProof.DictCompW
import HandS.Dict
import HandS.ListItems
import HandS.Codes
import KE.IntTextLaws
import PyProof.StrLawsChain
import PyProof.Rows.ReprOcc
import HandS.Star
import HandS.TryOnly
import KE.KUnpackStar
import HandS.Text
import HandS.StrMore
import PyProof.StrBlock2
import KE.KEqNest
import KE.DataMinMax
import HandS.List
import KE.Datum
import HandS.Small
import HandS.DictTup
import KE.KFmtOwn
import KE.KCallOwn
import PyProof.CallFns
import HandS.ExcInitHot
import HandS.SuiteRaise
import HandS.RaiseFrom
import HandS.Finally
import HandS.WordsDict
import HandS.Iter
import HandS.Lambda
import HandS.EndTab
import KE.KNestM
import PySem.Challenge.RW_cycleready_k55_whole_order_of_main_progr
set_option Elab.async false
set_option linter.all false
set_option maxRecDepth 100000
set_option maxHeartbeats 4000000
/-! Cr, part 1: promises of defs that hold where no repr is under way (so that repr may be asked inside of them). -/
namespace Cr
open PySem PySem.Spec PyProof.Rows L2 Evl
/-- nothing is being shown around -/
abbrev Quiet (A : Around) : Prop := A.guards = some []
/-- a def's promise, kept where it is quiet -/
structure FnG (P : Program) (w : World) (K : PySem.W.Frag) (mg : Str → Option Value) (base : Heap) (CX : CXT) (k : Nat) (f : Addr) (fd : FuncData) (ps : List Str) (sp : Sp) : Prop where
  sized : ∀ vs H Q E, sp vs H Q E → vs.length = ps.length
  goes : ∀ (A : Around) (outer : List Env) (s : Shared) (H : Hp) (args : Args) (us : List Value) (vs : List V) (Q : VK) (E : XK),
    Quiet A → Room k A → Env0 P w K mg base A outer s H → BindsTo s fd args (ps.zip us) → Vals vs us → sp vs H Q E →
    codeAny (model P w) A (.call (.ref f) args) (CR CX outer P w H s Q E) s
section
variable {P : Program} {w : World} {K : PySem.W.Frag} {mg : Str → Option Value} {base : Heap}
theorem FnG.up {CX : CXT} {j k : Nat} {f : Addr} {fd : FuncData} {ps : List Str} {sp : Sp}
    (F : FnG P w K mg base CX j f fd ps sp) (le : j ≤ k) : FnG P w K mg base CX k f fd ps sp :=
  ⟨F.sized, fun A outer s H args us vs Q E hq hr e hb r h => F.goes A outer s H args us vs Q E hq (hr.mono le) e hb r h⟩
/-- a def by its body, where it is quiet -/
theorem okG {x qual : Str} {st : Stmt} {f : Addr} {fd : FuncData} {N ps : List Str} {k : Nat} {sp : Sp}
    (F : Fun K x qual st f fd) (S : FnScope N ps (defScope st)) (len : ∀ vs H Q E, sp vs H Q E → vs.length = ps.length)
    (hbody : ∀ (cdv : Value) (A : Around) (outer : List Env) (s : Shared) (H : Hp) (vs : List V) (Q : VK) (E : XK),
      Quiet (A.deeper (envOfC qual (defScope st) s.heap.objs.size f cdv)) →
      Room k (A.deeper (envOfC qual (defScope st) s.heap.objs.size f cdv)) → sp vs H Q E →
      ∃ t, PSs (cxOf CX0 P w K mg base N qual (defScope st) f cdv A outer s H E).nox (defBody st) t ∧
        t { nx := fun _ H' => Q .non H', rt := Q } (start N vs) H) :
    FnG P w K mg base CX0 (k + 1) f fd ps sp := by
  obtain ⟨oc, od, kV, doc, pm, an, cdv, ct, osl, rfl, lk, hcd⟩ := F.ex
  refine ⟨len, fun A outer s H args us vs Q E hq hr e0 hb r hsp => ?_⟩
  have keepB : ∀ b o, base.get? b = some o → s.heap.get? b = some o := fun b o e => (e0.bs b o e).1
  have kinds : ((ps.zip us).all fun y => (defScope st).names.lookup y.1 == some .local || (defScope st).names.lookup y.1 == some .cell) = true := by
    refine List.all_eq_true.mpr fun y hy => ?_
    obtain ⟨n, v⟩ := y
    rcases S.par n (List.of_mem_zip hy).1 with z | z
    · simp [z]
    · simp [z]
  refine Att.call_fn (binds := ps.zip us) (e0.mod.kin.keeps keepB) (e0.mod.nolimit.keeps keepB) lk hcd hr.depth hb kinds (fun s1 IC => ?_) S.co S.gen S.kind
  obtain ⟨t, ht, hT⟩ := hbody cdv A outer s H vs Q E hq (hr.deeper _) hsp
  have I := inv_start (CX := CX0) (E := E) S hr.hd e0 (len _ _ _ _ hsp) r IC
  refine wpAny_mono (ht.nox.run [] s1 (start N vs) H _ I hT) (fun fl s2 h2 => ?_) fun e s2 h2 => h2
  match fl, h2 with
  | .ret u, ⟨v, σ2, H2, J, rv, q⟩ => exact ⟨v, H2, J.os, J.bare, J.base, J.hok, rv, q⟩
  | .next, ⟨σ2, H2, J, q⟩ => exact ⟨V.non, H2, J.os, J.bare, J.base, J.hok, rfl, q⟩
  | .brk, ⟨_, _, _, q⟩ => exact q.elim
  | .cont, ⟨_, _, _, q⟩ => exact q.elim
end
section
variable {X : Cx} {CX : CXT} {k : Nat} {f : Addr} {fd : FuncData} {ps : List Str} {sp : Sp} {dvs : List V} {ds : List Value} {E : XK}
/-- the callee, called where it is quiet -/
theorem runG {pins : List (Addr × Obj)} {σ : L2.St} {H : Hp} {s : Shared} {Q : VK} {us : List Value} {vs : List V}
    (F : FnG X.prog X.w X.K X.mg X.base CX k f fd ps sp) (hq : Quiet X.A) (hr : Room k X.A) (hb : Binds X.K fd ps ds) (hd : Vals dvs ds)
    (hx : Passes CX X E) (I : Inv X pins σ H s) (r : Vals vs us) (h : sp (vs ++ dvs) H Q E) :
    wpAny (model X.prog X.w) X.A (call (.ref f) us) (EP X pins σ Q) X.xe s := by
  have rr : Vals (vs ++ dvs) (us ++ ds) := Vals.append r hd
  have nn : (us ++ ds).length = ps.length := rr.length.symm.trans (F.sized _ _ _ _ h)
  have c := F.goes X.A X.stack s H ⟨us, []⟩ (us ++ ds) (vs ++ dvs) Q E hq hr (Inv.env0 I) (hb s us I.kIn nn) rr h
  refine wpAny_call (codeAny_mono c fun res s2 z => ?_)
  match res, z with
  | .error e, z => exact hx pins σ H s e s2 I z
  | .ok (.ret u), z => exact Inv.after I z
  | .ok .next, z => exact False.elim z
  | .ok .brk, z => exact False.elim z
  | .ok .cont, z => exact False.elim z
variable {x : Str} {p pos : Pos} {e : Expr} {es : List Expr} {t : TA}
theorem callG (F : FnG X.prog X.w X.K X.mg X.base CX k f fd ps sp) (hq : Quiet X.A) (hr : Room k X.A) (hg : Gl X x)
    (hm : X.mg x = some (.ref f)) (hk : PySem.W.keepIn X.K (.ref f) = true) (hb : Binds X.K fd ps ds) (hd : Vals dvs ds) (hx : Passes CX X E)
    (ha : PA X (e :: es) t) (hdb : (x == ("__debug__" : Str)) = false := by decide)
    (he : starEach (e :: es) X.env = (false, eval e X.env) :: starEach es X.env := by rfl)
    (hpl : (backTo pos (starEach es X.env)).any (·.1) = false := by rfl) :
    PE X (.Call (.Name x p) (e :: es) [] pos) (tCall sp dvs E t) := by
  constructor
  intro pins s σ H Q I h
  refine wpAny_Call_Name_kw (ld_glob I hg hm ?_ hdb)
  refine PySem.W.callWith_K (h₀ := X.base) I.ok.mod.kin hk ?_ he hpl
  refine thn (ha.run pos pins s σ H _ I h) ?_
  rintro us s1 ⟨vs, H1, I1, r, q⟩
  exact ⟨I1.kIn, runG F hq hr hb hd hx I1 r q⟩
end
/-! ### the law's own call -/
theorem law_callG {P : Program} {w : World} {K : PySem.W.Frag} {mg mb : Str → Option Value} {k : Nat} {fa a : Addr} {fd : FuncData} {x : Str} {sp : Sp} {s₁ : Shared} {vs : List Value} {ns : List Int}
    (KX : K.In s₁.heap) (hns : s₁.heap.Ns mainGlobals mg) (hb : s₁.heap.Ns builtinsNs mb) (hbb : ∀ x : Str, x ≠ "__name__" → mb x = bootBuiltins x)
    (hlim : s₁.heap.NoLimit) (hg : s₁.gens = #[]) (ha : s₁.heap.get? a = some { cls := .type "list", data := .seq vs.toArray })
    (hi : IntsAre vs ns) (hl : ns.length ≤ sizeLine) (hr : Room k callerA)
    (F : ∀ base : Heap, K.In base → base.Ns mainGlobals mg → FnG P w K mg base CX0 k fa fd [x] sp)
    (hbind : ∀ (s : Shared) (u : Value), BindsTo s fd ⟨[u], []⟩ [(x, u)])
    (hsp : ∀ H : Hp, SqL K H a (ns.map V.int) → sp [.ref a] H (fun v _ => v = .bl true) E0) :
    codeAny (model P w) callerA (.call (.ref fa) ⟨[.ref a], []⟩) (fun r s' => r = .ok (.ret (.bool true)) ∧ OldK s₁.heap s'.heap ∧ s'.os = s₁.os ∧ AllBare s'.gens) s₁ := by
  have rv := vals_ints hi
  have lenV := hi.length
  have core : ∀ H : Hp, (∀ b, H b = none ∨ (b = a ∧ H b = some (.frz { cls := .type "list", data := .seq vs.toArray } (.lst (ns.map V.int))) ∧ K.lookup a = none)) →
      SqL K H a (ns.map V.int) →
      codeAny (model P w) callerA (.call (.ref fa) ⟨[.ref a], []⟩) (fun r s' => r = .ok (.ret (.bool true)) ∧ OldK s₁.heap s'.heap ∧ s'.os = s₁.os ∧ AllBare s'.gens) s₁ := by
    intro H hO hS
    have hok : HOk P w H s₁.heap := fun b u z => by
      rcases hO b with q | ⟨rfl, q, _⟩
      · rw [q] at z; cases z
      · rw [q] at z; cases z
        exact ⟨ha, by rw [List.length_map]; exact hl, vs, _, rv, ha⟩
    have keepN : ∀ {b : Addr} {m : Str → Option Value}, s₁.heap.Ns b m → (hidT s₁.heap H).Ns b m := fun {b m} z => by
      obtain ⟨o, es, ep, e, d, r⟩ := z
      refine ⟨o, es, ep, hidT_get e ?_, d, r⟩
      rcases hO b with q | ⟨rfl, q, _⟩
      · exact q
      · rw [ha] at e
        cases e
        have d' : Data.seq vs.toArray _ = Data.dict es ep := d
        cases d'
    have keepK : K.In (hidT s₁.heap H) := fun b o e => by
      refine hidT_get (KX b o e) ?_
      rcases hO b with q | ⟨rfl, q, n⟩
      · exact q
      · rw [n] at e; cases e
    have hM : Mod K mg (hidT s₁.heap H) := by
      obtain ⟨mc, l1, l2⟩ := hlim
      exact ⟨keepK, keepN hns, ⟨mb, keepN hb, hbb⟩, ⟨mc, keepN l1, l2⟩⟩
    have e0 : Env0 P w K mg (hidT s₁.heap H) callerA [] s₁ H :=
      { frames := rfl, mod := hM, bs := fun b o e => of_hidT e, bsz := Nat.le_of_eq (hidT_size _ _), funs := trivial,
        frf := fun b z => absurd (show b ∈ ([] : List Addr) from z) List.not_mem_nil, hok := hok, bare := .of_eq hg }
    have go := (F _ keepK (keepN hns)).goes callerA [] s₁ H ⟨[.ref a], []⟩ [.ref a] [.ref a] _ _ rfl hr e0 (hbind s₁ (.ref a)) (.cons rfl .nil) (hsp H hS)
    refine codeAny_mono go fun res s2 z => ?_
    match res, z with
    | .error e, z => exact z.elim
    | .ok .next, z => exact False.elim z
    | .ok .brk, z => exact False.elim z
    | .ok .cont, z => exact False.elim z
    | .ok (.ret u), ⟨v, H2, os, bare, un, hok2, rel, q⟩ =>
      have qv : v = .bl true := q
      subst qv
      obtain rfl : u = Value.bool true := rel
      refine ⟨rfl, OldK.of_keep fun b o e => ?_, os, bare⟩
      rcases hO b with z | ⟨rfl, z, _⟩
      · exact un.keep b o e z (fun y => absurd (show b ∈ ([] : List Addr) from y) List.not_mem_nil) List.not_mem_nil
      · obtain ⟨g1, _⟩ := hok2 b _ (un.frzs b _ _ z)
        rw [ha] at e
        cases e
        exact g1
  cases hk : K.lookup a with
  | some o =>
    have e := KX a o hk
    rw [ha] at e
    cases e
    exact core (fun _ => none) (fun _ => .inl rfl) (.inr ⟨_, vs.toArray, _, hk, rfl, rfl, rfl, by rw [List.size_toArray, lenV]; exact hl, by simpa using rv⟩)
  | none =>
    refine core (fun b => if b = a then some (.frz { cls := .type "list", data := .seq vs.toArray } (.lst (ns.map V.int))) else none) (fun b => ?_) (.inl (.inr ⟨_, if_pos rfl⟩))
    by_cases hb : b = a
    · exact .inr ⟨hb, if_pos hb, hk⟩
    · exact .inl (if_neg hb)
/-- the end of a law row, the script's bits told -/
theorem walkG {l : PySem.W.OpenLaw} {n k : Nat} {q : Program} {loose : List Str} {XP : (Str → Option Value) → Heap → Prop} {YP : World → Heap → Prop} {d : DefRec} {K : Params → PySem.W.Frag} {sp : World → Sp} {x : Str}
    (hn : l.most = some n) (hn2 : n ≤ sizeLine) (hdf : d.params.defaults = []) (hr : Room k callerA)
    (hY : ∀ (w : World) (h : Heap), YP w h → (K w.params).In h)
    (F : ∀ (w : World) (mg : Str → Option Value) (fa : Addr) (h : Heap), (K w.params).In h → h.Ns mainGlobals mg → mg d.name = some (.ref fa) →
      ∃ fd : FuncData, (∀ (s : Shared) (u : Value), BindsTo s fd ⟨[u], []⟩ [(x, u)]) ∧
        ∀ base : Heap, (K w.params).In base → base.Ns mainGlobals mg → FnG l.prog w (K w.params) mg base CX0 k fa fd [x] (sp w))
    (hsp : ∀ (w : World) (H : Hp) (a : Addr) (ns : List Int), ns.length ≤ n → (∀ z ∈ ns, Builtin.Int.intBits z ≤ 1048576) →
      SqL (K w.params) H a (ns.map V.int) → sp w [.ref a] H (fun v _ => v = .bl true) E0) :
    PySem.W.WalkO q loose XP YP l.row.toRowW d [] (fun f vs => PySem.call f vs) := by
  refine Att.attach_callB hn hdf ?_
  intro w s₀ s₁ mg mb fa o pm cd doc a vs ns G Y ho hd hcd hmg hobj hints hlen hbits hgen
  obtain ⟨fd, hb, hF⟩ := F w mg fa _ (hY w _ Y) G.T.g hmg
  exact law_callG (hY w _ Y) G.T.g G.T.b G.T.builtins G.T.nolimit hgen hobj hints (Nat.le_trans hlen hn2) hr hF hb
    (fun H hS => hsp w H a ns hlen hbits hS)
end Cr
/-! Cr, part 2: data in the abstract heap, repr of it, isinstance of it. -/
namespace Cr
open PySem PySem.Spec PyProof.Rows L2 Evl
def kD : Key → PyData
  | .inl i => .int i
  | .inr x => .str x
mutual
/-- the value v is the data d, all of it tracked -/
inductive Dt (H : Hp) : V → PyData → Prop
  | non : Dt H .non .none
  | bl (b : Bool) : Dt H (.bl b) (.bool b)
  | int (i : Int) : Dt H (.int i) (.int i)
  | str (x : Str) : Dt H (.str x) (.str x)
  | lst {a : Addr} {xs : List V} {ds : List PyData} : H a = some (.lst xs) → DtAll H xs ds → Dt H (.ref a) (.list ds)
  | tup {a : Addr} {xs : List V} {ds : List PyData} : H a = some (.tup xs) → DtAll H xs ds → Dt H (.ref a) (.tuple ds)
  | dct {a : Addr} {kvs : List (Key × V)} {es : List (PyData × PyData)} : H a = some (.dK kvs) → DtKv H kvs es → Dt H (.ref a) (.dict es)
inductive DtAll (H : Hp) : List V → List PyData → Prop
  | nil : DtAll H [] []
  | cons {v : V} {vs : List V} {d : PyData} {ds : List PyData} : Dt H v d → DtAll H vs ds → DtAll H (v :: vs) (d :: ds)
inductive DtKv (H : Hp) : List (Key × V) → List (PyData × PyData) → Prop
  | nil : DtKv H [] []
  | cons {k : Key} {v : V} {kvs : List (Key × V)} {d : PyData} {es : List (PyData × PyData)} : Dt H v d → DtKv H kvs es → DtKv H ((k, v) :: kvs) ((kD k, d) :: es)
end
mutual
theorem Dt.ex {H H' : Hp} (e : Ex H H') : ∀ {v : V} {d : PyData}, Dt H v d → Dt H' v d
  | _, _, .non => .non
  | _, _, .bl b => .bl b
  | _, _, .int i => .int i
  | _, _, .str x => .str x
  | _, _, .lst h a => .lst (e _ _ h) (DtAll.ex e a)
  | _, _, .tup h a => .tup (e _ _ h) (DtAll.ex e a)
  | _, _, .dct h a => .dct (e _ _ h) (DtKv.ex e a)
theorem DtAll.ex {H H' : Hp} (e : Ex H H') : ∀ {vs : List V} {ds : List PyData}, DtAll H vs ds → DtAll H' vs ds
  | _, _, .nil => .nil
  | _, _, .cons h t => .cons (Dt.ex e h) (DtAll.ex e t)
theorem DtKv.ex {H H' : Hp} (e : Ex H H') : ∀ {kvs : List (Key × V)} {es : List (PyData × PyData)}, DtKv H kvs es → DtKv H' kvs es
  | _, _, .nil => .nil
  | _, _, .cons h t => .cons (Dt.ex e h) (DtKv.ex e t)
end
theorem DtAll.length {H : Hp} : ∀ {vs : List V} {ds : List PyData}, DtAll H vs ds → vs.length = ds.length
  | _, _, .nil => rfl
  | _, _, .cons _ t => by simp [DtAll.length t]
theorem DtKv.len {H : Hp} : ∀ {kvs : List (Key × V)} {ds : List (PyData × PyData)}, DtKv H kvs ds → kvs.length = ds.length
  | _, _, .nil => rfl
  | _, _, .cons _ t => by simp [DtKv.len t]
theorem DtAll.get {H : Hp} : ∀ {vs : List V} {ds : List PyData} {i : Nat} {v : V}, DtAll H vs ds → vs[i]? = some v → ∃ d, ds[i]? = some d ∧ Dt H v d
  | _, _, _, _, .nil, h => by simp at h
  | _, _, 0, _, .cons h _, e => by simp at e; subst e; exact ⟨_, rfl, h⟩
  | _, _, i + 1, _, .cons _ t, e => by
    obtain ⟨d, h1, h2⟩ := DtAll.get (i := i) t (by simpa using e)
    exact ⟨d, by simpa using h1, h2⟩
theorem DtAll.append {H : Hp} : ∀ {vs ws : List V} {ds es : List PyData}, DtAll H vs ds → DtAll H ws es → DtAll H (vs ++ ws) (ds ++ es)
  | _, _, _, _, .nil, s => s
  | _, _, _, _, .cons h t, s => .cons h (DtAll.append t s)
theorem DtAll.drop {H : Hp} : ∀ {vs : List V} {ds : List PyData} (n : Nat), DtAll H vs ds → DtAll H (vs.drop n) (ds.drop n)
  | _, _, 0, h => h
  | _, _, _ + 1, .nil => .nil
  | _, _, n + 1, .cons _ t => DtAll.drop n t
theorem DtAll.take {H : Hp} : ∀ {vs : List V} {ds : List PyData} (n : Nat), DtAll H vs ds → DtAll H (vs.take n) (ds.take n)
  | _, _, 0, _ => .nil
  | _, _, _ + 1, .nil => .nil
  | _, _, n + 1, .cons h t => .cons h (DtAll.take n t)
theorem DtAll.set {H : Hp} {v : V} {d : PyData} (hv : Dt H v d) : ∀ {vs : List V} {ds : List PyData} (n : Nat), DtAll H vs ds → DtAll H (vs.set n v) (ds.set n d)
  | _, _, _, .nil => .nil
  | _, _, 0, .cons _ t => .cons hv t
  | _, _, n + 1, .cons h t => .cons h (DtAll.set hv n t)
/-! ### the heap without one object -/
def wo (p : Addr) (H : Hp) : Hp := fun a => if a = p then none else H a
theorem wo_ne {p a : Addr} {H : Hp} (h : a ≠ p) : wo p H a = H a := if_neg h
theorem wo_same {p : Addr} {H : Hp} : wo p H p = none := if_pos rfl
theorem wo_some {p a : Addr} {H : Hp} {o : HO} (h : wo p H a = some o) : a ≠ p ∧ H a = some o := by
  by_cases e : a = p
  · subst e
    rw [wo_same] at h
    cases h
  · rw [wo_ne e] at h
    exact ⟨e, h⟩
theorem wo_ex (p : Addr) (H : Hp) : Ex (wo p H) H := fun a o h => (wo_some h).2
theorem Ex.wo {p : Addr} {H H' : Hp} (e : Ex H H') : Ex (Cr.wo p H) (Cr.wo p H') := fun a o h => by
  obtain ⟨n, h⟩ := wo_some h
  rw [wo_ne n]
  exact e a o h
theorem wo_upd {p : Addr} {H H' : Hp} {o : HO} (e : Ex (wo p H) (wo p H')) : Ex (wo p H) (wo p (upd H' p o)) := fun a u h => by
  have n := (wo_some h).1
  have q := e a u h
  rw [wo_ne n] at q
  rw [wo_ne n, upd_ne n]
  exact q
/-! ### the kind of data -/
def tyT : PyData → String
  | .none => "NoneType"
  | .bool _ => "bool"
  | .int _ => "int"
  | .str _ => "str"
  | .list _ => "list"
  | .tuple _ => "tuple"
  | .dict _ => "dict"
theorem Dt.ty {K : PySem.W.Frag} {H : Hp} {v : V} {d : PyData} (h : Dt H v d) : TyX K H v (.type (tyT d)) := by
  cases h with
  | non => exact .base .non
  | bl b => exact .base (.bl b)
  | int i => exact .base (.int i)
  | str x => exact .base (.str x)
  | lst h _ => exact .base (.lst h)
  | tup h _ => exact .base (.tup h)
  | dct h _ => exact .base (.dK h)
/-- isinstance(v, T), T one of the plain types -/
def isTs (T t : String) : Bool := t == T || (T == "int" && t == "bool")
def isT (T : String) (d : PyData) : Bool := isTs T (tyT d)
theorem kitS : ∀ t ∈ ["NoneType", "bool", "int", "str", "list", "tuple", "dict"], ∀ T ∈ ["int", "bool", "str", "list", "tuple", "dict"], kitB t T = some (isTs T t) := by decide +kernel
theorem tyT_mem (d : PyData) : tyT d ∈ ["NoneType", "bool", "int", "str", "list", "tuple", "dict"] := by
  cases d <;> simp [tyT]
theorem kit_isT {K : PySem.W.Frag} {T : String} (hT : T ∈ ["int", "bool", "str", "list", "tuple", "dict"]) (d : PyData) :
    PySem.W.kitOne K (.type (tyT d)) (.type T) = some (isT T d) := kit_ty (kitS _ (tyT_mem d) _ hT)
/-- isinstance on data -/
theorem rc_isi {K : PySem.W.Frag} {H : Hp} {v : V} {d : PyData} {T : String} (h : Dt H v d) (hT : T ∈ ["int", "bool", "str", "list", "tuple", "dict"]) :
    RC (rIsi K) [v, .ty T] H (.bl (isT T d)) := fun H1 e Q q =>
  ⟨v, .ty T, .type (tyT d), .type T, isT T d, rfl, .ty T, (Dt.ex e h).ty, kit_isT hT d, q H1 (Ex.refl H1)⟩
/-! ### repr -/
section
variable {X : Cx} {pins : List (Addr × Obj)} {σ : L2.St} {H : Hp} {s : Shared}
/-- what is shown of a value, at any heap that keeps this one -/
def Shown (P : Program) (w : World) (h : Heap) (v : Value) (d : PyData) : Prop :=
  (∃ as, Reads h v d as) ∧ (d.showable = true → d.shown.length ≤ sizeLine → ∃ bs, ReadAtMost h d.depth bs ∧ ReprK P w bs h d.depth v d.shown)
def ShownAll (P : Program) (w : World) (h : Heap) (vs : List Value) (ds : List PyData) : Prop :=
  (∃ as, ReadsAll h vs ds as) ∧ (PyData.showableAll ds = true → (∀ t ∈ PyData.shownAll ds, t.length ≤ sizeLine) →
    ∃ bs, ReadAtMost h (PyData.depthAll ds) bs ∧ ReprAllK P w bs h (PyData.depthAll ds) vs (PyData.shownAll ds))
theorem ShownAll.nil {P : Program} {w : World} {h : Heap} : ShownAll P w h [] [] :=
  ⟨⟨_, .nil⟩, fun _ _ => ⟨[], (fun _ z => nomatch z), by rw [PyData.shownAll]; exact .nil⟩⟩
theorem ShownAll.cons {P : Program} {w : World} {h : Heap} {v : Value} {vs : List Value} {d : PyData} {ds : List PyData} (a : Shown P w h v d) (b : ShownAll P w h vs ds) : ShownAll P w h (v :: vs) (d :: ds) := by
  obtain ⟨⟨as, ra⟩, sa⟩ := a
  obtain ⟨⟨bs, rb⟩, sb⟩ := b
  refine ⟨⟨_, .cons ra rb⟩, fun hs hz => ?_⟩
  rw [PyData.showableAll, Bool.and_eq_true] at hs
  rw [PyData.shownAll] at hz
  obtain ⟨b1, m1, k1⟩ := sa hs.1 (hz _ (List.mem_cons_self ..))
  obtain ⟨b2, m2, k2⟩ := sb hs.2 fun t ht => hz t (List.mem_cons_of_mem _ ht)
  refine ⟨b1 ++ b2, ?_, ?_⟩
  · rw [PyData.depthAll]
    exact (m1.mono (Nat.le_max_left _ _)).append (m2.mono (Nat.le_max_right _ _))
  · rw [PyData.depthAll, PyData.shownAll]
    exact .cons ((k1.more fun b hb => List.mem_append_left _ hb).level_le (Nat.le_max_left _ _)) (k2.more_le (fun b hb => List.mem_append_right _ hb) (Nat.le_max_right _ _))
theorem Shown.list {P : Program} {w : World} {h : Heap} {a : Addr} {o : Obj} {vs : List Value} {n : Nat} {ds : List PyData} (g : h.get? a = some o) (c : o.cls = .type "list") (e : o.data = .seq vs.toArray n) (S : ShownAll P w h vs ds) : Shown P w h (.ref a) (.list ds) := by
  obtain ⟨⟨as, ra⟩, sa⟩ := S
  have R : Reads h (.ref a) (.list ds) (a :: as) := .list g c e (by simpa using ra)
  refine ⟨⟨_, R⟩, fun hs hz => ?_⟩
  rw [PyData.showable] at hs
  rw [PyData.shown] at hz
  obtain ⟨bs, m, k⟩ := sa hs fun t ht => Nat.le_trans (listText_mem_le ht) hz
  have no : a ∉ bs := not_mem_of_deeper R (by rw [PyData.depth]; omega) m
  refine ⟨a :: bs, ReadAtMost.cons R (by rw [PyData.depth]; omega) m, ?_⟩
  rw [PyData.depth, PyData.shown]
  cases vs with
  | nil =>
    cases ra
    rw [PyData.shownAll, listText_nil]
    exact ReprK.listEmpty g c e
  | cons x l => exact ReprK.list g c e no (by simpa using k.length_eq) fun i y q => k.item i y (by simpa using q)
theorem Shown.tuple {P : Program} {w : World} {h : Heap} {a : Addr} {o : Obj} {vs : List Value} {n : Nat} {ds : List PyData} (g : h.get? a = some o) (c : o.cls = .type "tuple") (e : o.data = .seq vs.toArray n) (S : ShownAll P w h vs ds) : Shown P w h (.ref a) (.tuple ds) := by
  obtain ⟨⟨as, ra⟩, sa⟩ := S
  have R : Reads h (.ref a) (.tuple ds) as := .tuple g c e (by simpa using ra)
  refine ⟨⟨_, R⟩, fun hs hz => ?_⟩
  rw [PyData.showable] at hs
  rw [PyData.shown] at hz
  obtain ⟨bs, m, k⟩ := sa hs fun t ht => Nat.le_trans (tupleText_mem_le ht) hz
  refine ⟨a :: bs, ReadAtMost.cons R (by rw [PyData.depth]; omega) m, ?_⟩
  rw [PyData.depth, PyData.shown]
  exact ReprK.tuple g c e (not_mem_of_deeper R (by rw [PyData.depth]; omega) m) (by simpa using k)
theorem Shown.dict {P : Program} {w : World} {h : Heap} {a : Addr} {o : Obj} {es : Array DictEntry} {n : Nat} {kvs : List (PyData × PyData)} (g : h.get? a = some o) (c : o.cls = .type "dict") (e : o.data = .dict es n) (sys : (a == sysModules) = false)
    (S1 : ShownAll P w h (es.toList.map (·.key)) (kvs.map (·.1))) (S2 : ShownAll P w h (es.toList.map (·.val)) (kvs.map (·.2))) : Shown P w h (.ref a) (.dict kvs) := by
  obtain ⟨⟨as, ra⟩, sa⟩ := S1
  obtain ⟨⟨bs, rb⟩, sb⟩ := S2
  have R : Reads h (.ref a) (.dict kvs) (a :: as ++ bs) := .dict g c e ra rb
  refine ⟨⟨_, R⟩, fun hs hz => ?_⟩
  rw [PyData.showable] at hs
  rw [PyData.shown] at hz
  obtain ⟨h1, h2⟩ := PyData.showableKv_split kvs hs
  obtain ⟨b1, m1, k1⟩ := sa h1 fun t ht => let ⟨p, hp, hl⟩ := PyData.shownKv_key_le kvs t ht; Nat.le_trans hl (Nat.le_trans (dictText_mem_le hp) hz)
  obtain ⟨b2, m2, k2⟩ := sb h2 fun t ht => let ⟨p, hp, hl⟩ := PyData.shownKv_val_le kvs t ht; Nat.le_trans hl (Nat.le_trans (dictText_mem_le hp) hz)
  have m := (m1.mono (PyData.depthAll_keys_le kvs)).append (m2.mono (PyData.depthAll_vals_le kvs))
  refine ⟨a :: (b1 ++ b2), ReadAtMost.cons R (by rw [PyData.depth]; omega) m, ?_⟩
  rw [PyData.depth, PyData.shown, PyData.shownKv_eq]
  refine ReprK.dict g c e sys (not_mem_of_deeper R (by rw [PyData.depth]; omega) m) ?_
  exact ReprEntriesK.of_two es.toList _ _ (k1.more_le (fun b hb => List.mem_append_left _ hb) (PyData.depthAll_keys_le kvs)) (k2.more_le (fun b hb => List.mem_append_right _ hb) (PyData.depthAll_vals_le kvs))
theorem Shown.key {P : Program} {w : World} {h : Heap} {k : Key} {v : Value} (q : keyIs k v = true) : Shown P w h v (kD k) := by
  rcases keyIs_shape q with ⟨i, t, rfl, rfl⟩ | ⟨x, t, rfl, rfl⟩
  · refine ⟨⟨_, Reads.int i t⟩, fun hs _ => ⟨[], (fun _ z => nomatch z), ?_⟩⟩
    simp only [kD, PyData.shown]
    exact .of_is (ReprIs.int t (by simpa [kD, PyData.showable] using hs)) _ _ _
  · refine ⟨⟨_, Reads.str x t⟩, fun _ hz => ⟨[], (fun _ z => nomatch z), ?_⟩⟩
    simp only [kD, PyData.shown] at hz ⊢
    exact .of_is (ReprIs.str x t hz) _ _ _
/-- keys and values of a tracked dict -/
theorem shown_pairs {P : Program} {w : World} {h : Heap} : ∀ {kvs : List (Key × V)} {us : List (Key × Value)} {es : List DictEntry} {ds : List (PyData × PyData)},
    KV kvs us → PySem.Pairs (mixKind P w) es us → (∀ (i : Nat) (k : Key) (v : V) (u : Value), kvs[i]? = some (k, v) → RelV v u → ∃ d, ds[i]? = some (kD k, d) ∧ Shown P w h u d) → kvs.length = ds.length →
    ShownAll P w h (es.map (·.key)) (ds.map (·.1)) ∧ ShownAll P w h (es.map (·.val)) (ds.map (·.2))
  | [], _, _, ds, kv, ps, _, hl => by
    cases kv
    cases ps
    cases ds with
    | nil => exact ⟨.nil, .nil⟩
    | cons x r => simp at hl
  | (k, v) :: r, _, _, ds, kv, ps, hv, hl => by
    cases kv with
    | cons h1 h2 =>
      rename_i q us'
      obtain ⟨e1, rv⟩ := h1
      cases ps with
      | cons p1 p2 p3 =>
        obtain ⟨d, ed, sd⟩ := hv 0 k v q.2 rfl rv
        cases ds with
        | nil => simp at hl
        | cons x ds' =>
          simp at ed
          subst ed
          have ih := shown_pairs h2 p3 (ds := ds') (fun i k' v' u' e r' => by
            obtain ⟨d', g1, g2⟩ := hv (i + 1) k' v' u' (by simpa using e) r'
            exact ⟨d', by simpa using g1, g2⟩) (by simpa using hl)
          have e1' : k = q.1 := e1
          rw [List.map_cons, List.map_cons, List.map_cons, List.map_cons]
          refine ⟨.cons (Shown.key (k := k) ?_) ih.1, .cons ?_ ih.2⟩
          · rw [e1']
            exact p1
          · show Shown P w h _ d
            rw [p2]
            exact sd
mutual
theorem Dt.shown (I : Inv X pins σ H s) : ∀ {v : V} {d : PyData}, Dt H v d → ∀ {u : Value}, RelV v u → Shown X.prog X.w s.heap u d
  | _, _, .non, _, r => by
    cases r
    exact ⟨⟨_, Reads.none⟩, fun _ _ => ⟨[], (fun _ z => nomatch z), by rw [PyData.shown]; exact .of_is ReprIs.none _ _ _⟩⟩
  | _, _, .bl b, _, r => by
    cases r
    exact ⟨⟨_, Reads.bool b⟩, fun _ _ => ⟨[], (fun _ z => nomatch z), by rw [PyData.shown]; exact .of_is (ReprIs.bool b) _ _ _⟩⟩
  | _, _, .int i, _, r => Shown.key (k := .inl i) (by obtain ⟨t, rfl⟩ := r; exact keyIs_int i t)
  | _, _, .str x, _, r => Shown.key (k := .inr x) (by obtain ⟨t, rfl⟩ := r; exact keyIs_str x t)
  | _, _, .lst (a := a) (xs := xs) h t, _, r => by
    cases r
    obtain ⟨_, its, n, rv, g⟩ := (show ObjOk X.prog X.w H s.heap a (.lst xs) from I.hok a _ h)
    exact Shown.list g rfl rfl (DtAll.shown I t rv)
  | _, _, .tup (a := a) (xs := xs) h t, _, r => by
    cases r
    obtain ⟨_, its, rv, o, g, c, n, e⟩ := (show ObjOk X.prog X.w H s.heap a (.tup xs) from I.hok a _ h)
    exact Shown.tuple g c e (DtAll.shown I t rv)
  | _, _, .dct (a := a) (kvs := kvs) (es := ds) h t, _, r => by
    cases r
    obtain ⟨_, sys, us, kv, o, es, ep, g, ex, e, _, ps, _⟩ := (show ObjOk X.prog X.w H s.heap a (.dK kvs) from I.hok a _ h)
    obtain ⟨s1, s2⟩ := shown_pairs kv ps (fun i k v u q r => DtKv.shown I t i k v u q r) (DtKv.len t)
    exact Shown.dict g ex.1 e sys s1 s2
theorem DtAll.shown (I : Inv X pins σ H s) : ∀ {vs : List V} {ds : List PyData}, DtAll H vs ds → ∀ {us : List Value}, Vals vs us → ShownAll X.prog X.w s.heap us ds
  | _, _, .nil, _, r => by
    cases r
    exact .nil
  | _, _, .cons h t, _, r => by
    cases r with
    | cons r1 r2 => exact .cons (Dt.shown I h r1) (DtAll.shown I t r2)
theorem DtKv.shown (I : Inv X pins σ H s) : ∀ {kvs : List (Key × V)} {ds : List (PyData × PyData)}, DtKv H kvs ds → ∀ (i : Nat) (k : Key) (v : V) (u : Value), kvs[i]? = some (k, v) → RelV v u → ∃ d, ds[i]? = some (kD k, d) ∧ Shown X.prog X.w s.heap u d
  | _, _, .nil, _, _, _, _, q, _ => by simp at q
  | _, _, .cons h t, 0, k, v, u, q, r => by
    simp at q
    obtain ⟨rfl, rfl⟩ := q
    exact ⟨_, rfl, Dt.shown I h r⟩
  | _, _, .cons h t, i + 1, k, v, u, q, r => by
    obtain ⟨d, g1, g2⟩ := DtKv.shown I t i k v u (by simpa using q) r
    exact ⟨d, by simpa using g1, g2⟩
end
end
end Cr
/-! Cr, part 3: repr as a rule; zip of a text and a tuple. -/
namespace Cr
open PySem PySem.Spec PyProof.Rows L2 Evl
/-- data whose text is short enough -/
structure Fits (d : PyData) : Prop where
  show1 : d.showable = true
  deep : d.depth ≤ 50
  size : d.shown.length ≤ sizeLine
def rRepr : List V → Hp → VK → Prop := fun xs H Q => ∃ v d, xs = [v] ∧ Dt H v d ∧ Fits d ∧ Q (.str d.shown) H
theorem call_reprG {X : Cx} (hq : Quiet X.A) (hu : X.A.units + 64 < cLine) : CallR X (.builtin "repr") rRepr := by
  intro pins s σ H xs us Q I r h
  obtain ⟨v, d, rfl, hd, fit, q⟩ := h
  obtain ⟨u, rfl, ru⟩ := vals1 r
  have fin : ∀ (h' : Heap) (t tk : Nat), (∀ b o, s.heap.get? b = some o → h'.get? b = some o) → EP X pins σ Q (.str d.shown t) { s with heap := h', toks := tk } :=
    fun h' t tk hk => ⟨.str d.shown, H, I.kept hk, ⟨t, rfl⟩, q⟩
  have dp := fit.deep
  have sz := fit.size
  have sw := fit.show1
  cases hd with
  | non =>
    cases ru
    rw [PyData.shown] at q
    exact PySem.P.repr_of_none ⟨.str _, H, I.tok _, ⟨_, rfl⟩, q⟩
  | bl b =>
    cases ru
    rw [PyData.shown] at q
    exact PySem.P.repr_of_bool ⟨.str _, H, I.tok _, ⟨_, by cases b <;> rfl⟩, q⟩
  | int i =>
    obtain ⟨t, rfl⟩ := ru
    rw [PyData.shown] at q
    exact PySem.P.repr_of_int (by simpa [PyData.showable] using sw) ⟨.str _, H, I.tok _, ⟨_, rfl⟩, q⟩
  | str x =>
    obtain ⟨t, rfl⟩ := ru
    rw [PyData.shown] at q sz
    exact PySem.P.repr_of_str ⟨.str _, H, I.tok _, ⟨_, rfl⟩, q⟩ sz
  | @lst a xs ds h t =>
    cases ru
    obtain ⟨_, its, n, rv, g⟩ := (show ObjOk X.prog X.w H s.heap a (.lst xs) from I.hok a _ h)
    have S : ShownAll X.prog X.w s.heap its ds := DtAll.shown I t rv
    obtain ⟨⟨as, ra⟩, sa⟩ := S
    rw [PyData.showable] at sw
    rw [PyData.depth] at dp
    have R : Reads s.heap (.ref a) (.list ds) (a :: as) := .list g rfl rfl (by simpa using ra)
    rw [PyData.shown] at sz
    obtain ⟨bs, m, k⟩ := sa sw fun t ht => Nat.le_trans (listText_mem_le ht) sz
    have no : a ∉ bs := not_mem_of_deeper R (by rw [PyData.depth]; omega) m
    refine call_repr_slot (by omega) ⟨_, g, rfl⟩ F.slot_list_repr.toG ?_
    cases its with
    | nil =>
      cases ra
      refine call_list_repr_empty ⟨_, g, rfl⟩ g rfl ?_
      refine ⟨_, _, rfl, ?_⟩
      have e : (PyData.list []).shown = ("[]" : Str) := by rw [PyData.shown, PyData.shownAll, listText_nil]
      rw [e] at fin
      exact fin s.heap _ _ fun _ _ z => z
    | cons x l =>
      refine call_list_reprK (s := s) g rfl rfl no (by simpa using k.length_eq) (fun i y e => k.item i y (by simpa using e)) hq (fun b _ => Clear.nil b) (show X.A.units + 1 + (PyData.depthAll ds + 1) < cLine by omega) (fun _ _ z => z) (fun h' t tk hk => ?_) sz
      refine ⟨_, _, rfl, ?_⟩
      have z := fin h' t tk hk
      rw [PyData.shown] at z
      exact z
  | @tup a xs ds h t =>
    cases ru
    obtain ⟨_, its, rv, o, g, c, n, e⟩ := (show ObjOk X.prog X.w H s.heap a (.tup xs) from I.hok a _ h)
    have S : ShownAll X.prog X.w s.heap its ds := DtAll.shown I t rv
    obtain ⟨⟨as, ra⟩, sa⟩ := S
    rw [PyData.showable] at sw
    rw [PyData.depth] at dp
    have R : Reads s.heap (.ref a) (.tuple ds) as := .tuple g c e (by simpa using ra)
    rw [PyData.shown] at sz
    obtain ⟨bs, m, k⟩ := sa sw fun t ht => Nat.le_trans (tupleText_mem_le ht) sz
    have no : a ∉ bs := not_mem_of_deeper R (by rw [PyData.depth]; omega) m
    refine call_repr_slot (by omega) ⟨_, g, c⟩ F.slot_tuple_repr ?_
    refine call_tuple_reprK (s := s) g c e no (by simpa using k) hq (fun b _ => Clear.nil b) (show X.A.units + 1 + (PyData.depthAll ds + 1) < cLine by omega) (fun _ _ z => z) (fun h' t tk hk => ?_) sz
    refine ⟨_, _, rfl, ?_⟩
    have z := fin h' t tk hk
    rw [PyData.shown] at z
    exact z
  | @dct a kvs ds h t =>
    cases ru
    obtain ⟨_, sys, us, kv, o, es, ep, g, ex, e, _, ps, _⟩ := (show ObjOk X.prog X.w H s.heap a (.dK kvs) from I.hok a _ h)
    obtain ⟨s1, s2⟩ := shown_pairs kv ps (fun i k v u q r => DtKv.shown I t i k v u q r) (DtKv.len t)
    obtain ⟨⟨as, ra⟩, sa⟩ := s1
    obtain ⟨⟨bs, rb⟩, sb⟩ := s2
    rw [PyData.showable] at sw
    rw [PyData.depth] at dp
    have R : Reads s.heap (.ref a) (.dict ds) (a :: as ++ bs) := .dict g ex.1 e ra rb
    have sz2 := sz
    rw [PyData.shown] at sz
    obtain ⟨w1, w2⟩ := PyData.showableKv_split ds sw
    obtain ⟨b1, m1, k1⟩ := sa w1 fun t ht => let ⟨p, hp, hl⟩ := PyData.shownKv_key_le ds t ht; Nat.le_trans hl (Nat.le_trans (dictText_mem_le hp) sz)
    obtain ⟨b2, m2, k2⟩ := sb w2 fun t ht => let ⟨p, hp, hl⟩ := PyData.shownKv_val_le ds t ht; Nat.le_trans hl (Nat.le_trans (dictText_mem_le hp) sz)
    have m := (m1.mono (PyData.depthAll_keys_le ds)).append (m2.mono (PyData.depthAll_vals_le ds))
    refine call_repr_slot (by omega) ⟨_, g, ex.1⟩ F.slot_dict_repr ?_
    refine call_dict_reprK (s := s) g ex.1 e sys (not_mem_of_deeper R (by rw [PyData.depth]; omega) m) (ReprEntriesK.of_two es.toList _ _ (k1.more_le (fun b hb => List.mem_append_left _ hb) (PyData.depthAll_keys_le ds)) (k2.more_le (fun b hb => List.mem_append_right _ hb) (PyData.depthAll_vals_le ds)))
      hq (fun b _ => Clear.nil b) (show X.A.units + 1 + (PyData.depthKv ds + 1) < cLine by omega) (fun _ _ z => z) (fun h' t tk hk => ?_) (by rw [← PyData.shownKv_eq]; exact sz)
    refine ⟨_, _, rfl, ?_⟩
    have z := fin h' t tk hk
    rw [PyData.shown, PyData.shownKv_eq] at z
    exact z
end Cr
/-! Cr, part 4: zip of a text and a tuple; comprehensions over any walk. -/
namespace Cr
open PySem PySem.Spec PyProof.Rows L2 Evl
theorem walk_zipT {K : PySem.W.Frag} {a b : Addr} {xs ys : List V} {n : Nat} (hn : n = min xs.length ys.length) :
    Walk (RZ.ItzT K a b) n (fun H => SqT K H a xs ∧ SqT K H b ys) (YPair (fun i => xs[i]?) fun i => ys[i]?) where
  goes := fun i H hi h => ⟨xs, ys, xs[i]'(by omega), ys[i]'(by omega), h.1, h.2, by simp [show i < xs.length by omega], by simp [show i < ys.length by omega]⟩
  stops := fun H h => ⟨xs, ys, h.1, h.2, by omega⟩
  yields := fun i H v H' hi h q => by
    obtain ⟨T, x, y, rfl, hT, rfl, hx, hy⟩ := q
    exact ⟨T, x, y, rfl, hT, rfl, hx xs h.1, hy ys h.2⟩
/-- a comprehension over any walk, which may be one of new things -/
theorem el_lcW {wi : TI} {g : TG} {tt : TT} {te : TE} {vs : List Nat} {σ : L2.St} {H : Hp} {n : Nat} {Y : Nat → Hp → V → Hp → Prop}
    (f : Nat → Bool) (v : Nat → V) (hn : n ≤ 40000)
    (hi : ∀ H1, Ex H H1 → ∀ R : It → Hp → Prop, (∀ H2 (J : It) (G : Hp → Prop), Walk J n G Y → (∀ H3 H4, Ex H3 H4 → G H3 → G H4) → Ex H1 H2 → G H2 → R J H2) → wi σ H1 R)
    (hs : ∀ i x H1 H2, Ex H H1 → i < n → Y i H1 x H2 → Ex H1 H2 ∧ ∃ σ2, wipe σ2 vs = wipe σ vs ∧ (∀ R : L2.St → Hp → Prop, R σ2 H2 → g x (wipe σ vs) H2 R) ∧ EvT tt σ2 H2 (f i) ∧ (f i = true → Ev te σ2 H2 (v i))) :
    EvL (tLc wi g tt te vs) σ H (given n f v) := by
  intro H0 e Q q
  refine hi H0 e _ fun H1 J G w hG e1 g1 D hD => ?_
  refine lc_it w (Cw H1 f v D) ⟨hD, Ex.new hD, upd_same⟩ (fun i H2 _ p => hG H1 H2 p.2.1 g1) (fun i x H2 H3 hlt p y => ?_) (fun H2 p => q D H2 (fresh_back e1 p.1) (e1.trans p.2.1) p.2.2)
  obtain ⟨p1, p2, p3⟩ := p
  obtain ⟨e2, σ2, hw, hgo, ht, he⟩ := hs i x H2 H3 ((e.trans e1).trans p2) hlt y
  refine hgo _ ⟨hw, ht H3 (Ex.refl H3) _ fun H4 e4 => ?_⟩
  cases hf : f i with
  | true =>
    rw [if_pos rfl]
    refine he hf H4 e4 _ fun H5 e5 => ⟨given i f v, e5 D _ (e4 D _ (e2 D _ p3)), sz_lt (by have := given_len i f v; omega), p1, Ex.mut (((p2.trans e2).trans e4).trans e5) p1, ?_⟩
    rw [given_yes hf]
    exact upd_same
  | false =>
    rw [if_neg Bool.false_ne_true]
    refine ⟨p1, (p2.trans e2).trans e4, ?_⟩
    rw [given_no hf]
    exact e4 D _ (e2 D _ p3)
end Cr
/-! Cr, part 5: small data, promises of one datum, evaluations that serve many defs. -/
namespace Cr
open PySem PySem.Spec PyProof.Rows L2 Evl
mutual
/-- texts and sequences of moderate size -/
def sm : PyData → Bool
  | .none | .bool _ | .int _ => true
  | .str x => decide (x.length ≤ 1000)
  | .list xs | .tuple xs => decide (xs.length ≤ 1000) && smAll xs
  | .dict _ => true
def smAll : List PyData → Bool
  | [] => true
  | x :: xs => sm x && smAll xs
end
theorem smAll_get : ∀ {ds : List PyData} {i : Nat} {d : PyData}, smAll ds = true → ds[i]? = some d → sm d = true
  | [], _, _, _, h => by simp at h
  | x :: xs, 0, d, h, e => by
    simp at e; subst e
    rw [smAll, Bool.and_eq_true] at h
    exact h.1
  | x :: xs, i + 1, d, h, e => by
    rw [smAll, Bool.and_eq_true] at h
    exact smAll_get h.2 (by simpa using e)
/-- a def that answers a datum with a bool -/
def spD (f : PyData → Bool) : Sp := fun vs H Q _ => ∃ v d, vs = [v] ∧ Dt H v d ∧ sm d = true ∧ ∀ H', Ex H H' → Q (.bl (f d)) H'
theorem spD_len {f : PyData → Bool} : ∀ vs H Q E, spD f vs H Q E → vs.length = 1 := fun vs H Q E h => by
  obtain ⟨v, d, rfl, _⟩ := h
  rfl
theorem spv_D {f : PyData → Bool} {H : Hp} {v : V} {d : PyData} (h : Dt H v d) (s : sm d = true) : SpV (spD f) [v] H (.bl (f d)) := fun H1 e Q q E =>
  ⟨v, d, rfl, Dt.ex e h, s, q⟩
section
variable {K : PySem.W.Frag} {σ : L2.St} {H : Hp} {ta tb tc te : TE} {x y z w v : V} {r r' : R2}
theorem ev_chain {k k' : Bool} (ha : Ev ta σ H x) (hb : Ev tb σ H y) (hr : RV r x y H (.bl k)) (hc : k = true → Ev tc σ H w) (hr' : k = true → RV r' y w H (.bl k')) : Ev (tChain r r' ta tb tc) σ H (.bl (k && k')) := fun H1 e Q q =>
  ha H1 e _ fun H2 e2 => hb H2 (e.trans e2) _ fun H3 e3 => hr H3 ((e.trans e2).trans e3) _ fun H4 e4 => ⟨k, rfl, by
    have e14 := (e2.trans e3).trans e4
    cases k with
    | true =>
      rw [if_pos rfl]
      exact hc rfl H4 (e.trans e14) _ fun H5 e5 => hr' rfl H5 ((e.trans e14).trans e5) Q fun H6 e6 => q H6 ((e14.trans e5).trans e6)
    | false =>
      rw [if_neg Bool.false_ne_true]
      exact q H4 e14⟩
theorem ev_all {bs : List Bool} (h : EvL te σ H (bs.map V.bl)) : Ev (tCB (rAll K) (tCons te tNil)) σ H (.bl (bs.all id)) := fun H1 e Q q =>
  h H1 e _ fun p H2 _ e2 hp => ⟨p, bs, rfl, sq_of hp, q H2 e2⟩
/-- len of a text, of a tracked tuple -/
theorem rc_lenS {s : Str} (h : s.length ≤ 1000) : RC (fun xs H Q => ∃ z, xs = [V.str z] ∧ z.length ≤ sizeLine ∧ Q (.int z.length) H) [.str s] H (.int (s.length : Int)) := fun H1 _ Q q =>
  ⟨s, rfl, sz_of (by omega), q H1 (Ex.refl H1)⟩
theorem rc_lenT {a : Addr} {xs : List V} (h : SqT K H a xs) : RC (fun vs H Q => ∃ p ys, vs = [V.ref p] ∧ (SqL K H p ys ∨ SqT K H p ys) ∧ Q (.int ys.length) H) [.ref a] H (.int (xs.length : Int)) := fun H1 e Q q =>
  ⟨a, xs, rfl, .inr (ex_t e h), q H1 (Ex.refl H1)⟩
theorem rc_lenL {a : Addr} {xs : List V} (h : SqL K H a xs) : RC (fun vs H Q => ∃ p ys, vs = [V.ref p] ∧ (SqL K H p ys ∨ SqT K H p ys) ∧ Q (.int ys.length) H) [.ref a] H (.int (xs.length : Int)) := fun H1 e Q q =>
  ⟨a, xs, rfl, .inl (ex_l e h), q H1 (Ex.refl H1)⟩
theorem cut_tail (v : V) (xs : List V) : cutV (v :: xs) (some 1) none = xs := by
  unfold cutV
  rw [show HT.sIx (v :: xs).length 0 (some 1) = min 1 (v :: xs).length from HT.sIx_nat _ 0 1, HT.sIx_none, show min 1 (v :: xs).length = 1 by rw [List.length_cons]; omega]
  show List.take ((v :: xs).length - 1) xs = xs
  rw [List.length_cons, Nat.add_sub_cancel]
  exact List.take_length
/-- t[1:] of a tuple that is not empty: a new tuple -/
theorem eu_tail {a : Addr} {v : V} {xs : List V} (h : Ev te σ H (.ref a)) (ht : SqT K H a (v :: xs)) : EvU (tSl (rSlT K) te (tPart (tC (.int 1))) tNoPart) σ H xs := fun H1 e Q q =>
  h H1 e _ fun H2 e2 => ⟨1, rfl, a, v :: xs, rfl, ex_t (e.trans e2) ht, by
    rw [show HT.sIx (v :: xs).length 0 (some 1) = min 1 (v :: xs).length from HT.sIx_nat _ 0 1]
    intro z
    have := z.1
    rw [List.length_cons] at this
    omega, fun p hp => by
    rw [cut_tail]
    exact q p _ (fresh_back e2 hp) (e2.trans (Ex.new hp)) upd_same⟩
end
/-! ### texts -/
def rLeS : R2 := fun x y H Q => ∃ i j, x = .str i ∧ y = .str j ∧ Q (.bl (!decide (j.cps.toList < i.cps.toList))) H
theorem op_leS {X : Cx} : OpR X (compareOp .LtE) rLeS := op_le_str
theorem rv_leS {i j : Str} {H : Hp} : RV rLeS (.str i) (.str j) H (.bl (!decide (j.cps.toList < i.cps.toList))) := fun H1 _ Q q => ⟨i, j, rfl, rfl, q H1 (Ex.refl H1)⟩
theorem one_lt (a b : Nat) : decide ([a] < [b]) = decide (a < b) := by
  by_cases h : a < b
  · rw [decide_eq_true h, decide_eq_true (List.cons_lt_cons_iff.mpr (.inl h))]
  · rw [decide_eq_false h, decide_eq_false]
    intro z
    rcases List.cons_lt_cons_iff.mp z with q | ⟨_, q⟩
    · exact h q
    · exact absurd q (by simp)
def isLow (c : Nat) : Bool := decide (97 ≤ c) && decide (c ≤ 122)
theorem given_all (n : Nat) (v : Nat → V) : given n (fun _ => true) v = (List.range n).map v := by
  unfold given
  rw [List.filter_eq_self.mpr (fun _ _ => rfl)]
theorem all_range {α : Type} (l : List α) (d : α) (p : α → Bool) : ((List.range l.length).map fun i => p (l.getD i d)).all id = l.all p := by
  rw [List.all_map]
  have e : ∀ n, n ≤ l.length → ((List.range n).all fun i => p (l.getD i d)) = (l.take n).all p := by
    intro n
    induction n with
    | zero => intro _; simp
    | succ n ih =>
      intro h
      rw [List.range_succ, List.all_append, ih (by omega), List.take_add_one, List.all_append]
      congr 1
      rw [List.getElem?_eq_getElem (by omega)]
      simp [List.getD, List.getElem?_eq_getElem (show n < l.length by omega)]
  have h := e l.length (Nat.le_refl _)
  rw [List.take_length] at h
  exact h
end Cr
/-! own errors whose making says super().__init__(..) first, over ValueError through classes between -/
namespace Cr
open PySem PySem.Spec PyProof.Rows L2
/-- the names of such a def -/
structure SupScope (N ps : List Str) (sc : Scope) : Prop where
  kind : sc.kind = .function
  co : sc.isCoroutine = false
  gen : sc.isGenerator = false
  nd : N.Nodup
  pre : N.take ps.length = ps
  par : ∀ x ∈ ps, sc.names.lookup x = some .local
  nocell : ∀ y ∈ sc.names, y.2 ≠ .cell
  free : ∀ y ∈ sc.names, y.2 = .free → y.1 = "__class__"
  cls : sc.names.lookup ("__class__" : Str) = some .free
  sup : sc.names.lookup ("super" : Str) = some .globalImplicit
/-- its body's context: no error leaves it -/
def cxSup (P : Program) (w : World) (K : PySem.W.Frag) (mg : Str → Option Value) (base : Heap) (N : List Str) (qual : Str) (scope : Scope) (f cda cc : Addr) (A : Around) (outer : List Env) (s : Shared) (H : Hp) : Cx where
  prog := P
  w := w
  K := K
  mg := mg
  base := base
  A := A.deeper (PySem.W.ksEnv qual scope s.heap.objs.size f (.ref cda) cc)
  N := N
  s_0 := s
  H_0 := H
  env := PySem.W.ksEnv qual scope s.heap.objs.size f (.ref cda) cc
  outer := outer
  stack := PySem.W.ksEnv qual scope s.heap.objs.size f (.ref cda) cc :: outer
  ex := []
  calm := true
  fn := fun _ => false
  pn := []
  xe := fun _ _ => False
theorem look_mem {α : Type} {x : Str} {v : α} : ∀ {l : List (Str × α)}, (l.map (·.1)).Nodup → (x, v) ∈ l → l.lookup x = some v
  | [], _, h => nomatch h
  | (y, u) :: l, nd, h => by
    rcases List.mem_cons.mp h with e | h2
    · cases e; simp [List.lookup]
    · have nd' := List.nodup_cons.mp nd
      have ne : (x == y) = false := by
        refine beq_eq_false_iff_ne.mpr fun z => nd'.1 ?_
        rw [← z]
        exact List.mem_map.mpr ⟨_, h2, rfl⟩
      simp only [List.lookup, ne]
      exact look_mem nd'.2 h2
theorem zip_rev {ps : List Str} {us : List Value} {i : Nat} {x : Str} {u : Value} (nd : ps.Nodup) (h1 : ps[i]? = some x) (h2 : us[i]? = some u) (hl : us.length = ps.length) : (ps.zip us).reverse.lookup x = some u := by
  refine look_mem ?_ ?_
  · rw [List.map_reverse]
    have e : (ps.zip us).map (·.1) = ps := List.map_fst_zip (by omega)
    rw [e]
    exact List.pairwise_reverse.mpr (List.Pairwise.imp (fun h => Ne.symm h) nd)
  · refine List.mem_reverse.mpr ?_
    refine List.mem_of_getElem? (i := i) ?_
    rw [List.getElem?_zip_eq_some]
    exact ⟨h1, h2⟩
section
variable {P : Program} {w : World} {K : PySem.W.Frag} {mg : Str → Option Value} {base : Heap}
theorem inv_sup {N ps : List Str} {qual : Str} {scope : Scope} {f cda cc : Addr} {cl : Value} {cld : Option Addr} {cv : Option Value} {csl : Array (Option Value)} {A : Around} {outer : List Env} {s : Shared} {h₁ : Heap} {tk : Nat} {H : Hp} {us : List Value} {vs : List V}
    (S : SupScope N ps scope) (hd : A.handled = none) (e0 : Env0 P w K mg base A outer s H) (hl : vs.length = ps.length) (r : Vals vs us) (hcell : K.lookup cc = some ⟨cl, cld, .cell cv, csl⟩)
    (hns : h₁.Ns s.heap.objs.size (fun x => (ps.zip us).reverse.lookup x)) (hk : ∀ b o, s.heap.get? b = some o → h₁.get? b = some o) :
    Inv (cxSup P w K mg base N qual scope f cda cc A outer s H) [] (L2.start N vs) H { s with heap := h₁, toks := tk } := by
  have hpl : ps.length ≤ N.length := by have := congrArg List.length S.pre; rw [List.length_take] at this; omega
  have noA : ∀ b : Addr, b ∉ (cxSup P w K mg base N qual scope f cda cc A outer s H).ex := fun b z => absurd (show b ∈ ([] : List Addr) from z) (by simp)
  have one : ∀ {y : Str} {c : Addr}, ([("__class__", cc)] : List (Str × Addr)).lookup y = some c → y = "__class__" ∧ c = cc := fun {y c} h => by
    by_cases z : y = "__class__"
    · subst z
      simp [List.lookup] at h
      exact ⟨rfl, h.symm⟩
    · have e : (y == ("__class__" : Str)) = false := beq_eq_false_iff_ne.mpr z
      simp [List.lookup, e] at h
  have hb := e0.mod.kin _ _ hcell
  have hc1 := e0.bs _ _ hb
  refine ⟨⟨e0.mod, S.kind, rfl, rfl, Nat.le_refl _, fun y z c h1 h2 => (one h1).1.trans (one h2).1.symm, fun y hy => ?_, fun y c z _ => absurd (show false = true from z) (by decide), fun _ => hd, Around.frames_deeper e0.frames, .inr ⟨rfl, rfl⟩, fun b z => absurd z (noA b), e0.bs, e0.bsz, fun b _ _ => noA b, fun b z => absurd z (noA b), e0.funs, e0.frf⟩,
    rfl, e0.bare, Un.kept hk, ⟨_, hns, fun i y v h1 h2 h3 => ?_⟩, fun y c h => ?_, e0.hok.fresh (Nat.le_refl _), fun y c h => ?_, fun p hp => absurd (show p ∈ ([] : List (Addr × Obj)) from hp) (by simp), e0.hok.kept hk, ?_⟩
  · have hy : scope.names.lookup y = some .cell ∨ scope.names.lookup y = some .free := hy
    rcases hy with hy | hy
    · exact absurd rfl (S.nocell _ (PySem.mem_of_lookup hy))
    · have e := S.free _ (PySem.mem_of_lookup hy) rfl
      have e : y = "__class__" := e
      subst e
      exact ⟨cc, by show ([(("__class__" : Str), cc)] : List (Str × Addr)).lookup ("__class__" : Str) = _; simp [List.lookup]⟩
  · have hi : i < vs.length := by
      unfold L2.start at h2
      by_cases hi : i < vs.length
      · exact hi
      · rw [List.getElem?_append_right (by simpa using hi)] at h2
        rw [List.getElem?_replicate] at h2
        split at h2 <;> cases h2
    have ha : vs[i]? = some v := by
      unfold L2.start at h2
      rw [List.getElem?_append_left (by simpa using hi), List.getElem?_map] at h2
      cases e : vs[i]? with
      | none => rw [e] at h2; cases h2
      | some a => rw [e] at h2; cases h2; rfl
    obtain ⟨u, hu, rv⟩ := r.get ha
    have hp : ps[i]? = some y := by
      rw [← S.pre, List.getElem?_take_of_lt (by omega)]; exact h1
    have ndP : ps.Nodup := by rw [← S.pre]; exact S.nd.sublist (List.take_sublist _ _)
    exact ⟨u, rv, .inl ⟨S.par y (List.mem_of_getElem? hp), zip_rev ndP hp hu (r.length.symm.trans hl)⟩⟩
  · obtain ⟨_, rfl⟩ := one h
    exact ⟨cv, _, hk _ _ hc1.1, rfl⟩
  · obtain ⟨_, rfl⟩ := one h
    exact hc1.2
  · unfold L2.start
    show _ = N.length
    rw [List.length_append, List.length_map, List.length_replicate]
    omega
end
end Cr
/-! own errors over a built-in error that has no __new__ of its own (KeyError: the one of LookupError) -/
namespace Cr
open PySem PySem.Sem
/-- what the tail of the chain must have -/
structure TailOk (B : String) (l : List Value) : Prop where
  has : l.contains (.type B) = true
  noA : l.contains (.type "AttributeError") = false
  noN : l.contains (.type "NameError") = false
section
variable {prog : Program} {w : World} {A : Around} {E : Value → Shared → Prop} {R : Result → Shared → Prop} {h : Heap} {g : Array GenState} {d : Drawn} {t : Nat} {os : OsState}
variable {nm q : Str} {C N : Addr} {bs bm tl : List Value} {hdct : Bool} {sn : List Str} {sub : List Value} {ab : Bool} {col : Option Bool} {dd : Option Addr} {k0 k1 k2 k3 k5 : Option Value} {B nw ini : String}
theorem TailOk.up {l : List Value} {c : Addr} {B : String} (T : TailOk B l) : TailOk B (.ref c :: l) :=
  ⟨by rw [List.contains_cons, T.has, Bool.or_true], by rw [List.contains_cons, T.noA]; rfl, by rw [List.contains_cons, T.noN]; rfl⟩
/-- the look ahead of __new__ -/
theorem chkNew (F : ExcBaseFacts B nw ini tl) (T : TailOk B (.ref C :: bm)) {M : Model} {us : List Value} {Q : Unit → Shared → Prop}
    (at_ : h.get? C = some (excClassObj nm q C N bs bm hdct sn sub ab col dd k0 k1 k2 k3 k5 nw)) (z : Q () ⟨h, g, d, t, os⟩) : wpAny M A (checkBuiltinCall nw ⟨.ref C :: us, []⟩) Q E ⟨h, g, d, t, os⟩ := by
  have e1 := T.has
  have e2 := F.noStar
  simp only [checkBuiltinCall, F.newKind, F.newSplit, F.newRow]
  repeat (first | refine wpAny_loadPart_at at_ ?_ | (refine wpAny_isSubtype_exc at_ ?_; rw [e1]) | refine wpAny_staticBase_exc at_ ?_ | refine wpAny_madeBy_exc at_ ?_ | simp only [bne_self_eq_false, Bool.false_eq_true, if_false] | wp_step)
  exact z
/-- __new__ itself -/
theorem runNew (F : ExcBaseFacts B nw ini tl) (T : TailOk B (.ref C :: bm)) {us : List Value} (at_ : h.get? C = some (excClassObj nm q C N bs bm hdct sn sub ab col dd k0 k1 k2 k3 k5 nw))
    (z : R (.ok (.ret (.ref (h.objs.size + 1)))) ⟨(h.push (PySem.W.kdv_tup us)).push (PySem.HandSPX.excO C h.objs.size), g, d, t, os⟩) (few : us.length ≤ sizeLine) :
    codeAny (model prog w) A (.builtin nw ⟨.ref C :: us, []⟩) R ⟨h, g, d, t, os⟩ := by
  have e0 := F.ends
  have e1 := T.has
  have e2 := T.noA
  have e3 := T.noN
  refine codeAny_builtinAt F.entry ?_
  unfold Builtin.«BaseException.__new__»
  refine wpAt_bind ?_
  show wpAt _ _ _ (stack >>= _) _ _ _
  refine wpAt_bind (wpAt_stack fun _ _ => wpAt_of_wpAny ?_)
  wp_walk
  refine wpAt_of_wpAny ?_
  rw [F.owner]
  repeat (first | with_reducible refine wpAny_madeHere_exc F.canon at_ ?_ | with_reducible refine wpAny_loadPart_at at_ ?_ | (with_reducible refine wpAny_isSubtype_exc at_ ?_; first | rw [e1] | rw [e2] | rw [e3]) | wp_step)
  show R _ _
  rw [Heap.size_push]
  exact z
/-- type.__call__: __new__, then the own __init__ -/
theorem typeCall2 (F : ExcBaseFacts B nw ini tl) (T : TailOk B (.ref C :: bm)) {us : List Value} {fI : Addr} {Q : Fin → Shared → Prop} (at_ : h.get? C = some (excClassObj nm q C N bs bm hdct sn sub ab col dd k0 k1 k2 k3 k5 nw))
    (hi : PySem.W.Looks (model prog w) h (typeLookup (.ref C) "__init__") (some (.ref fI))) (hb : ∀ self, PySem.W.Looks (model prog w) h (bindSpecial (.ref fI) self) (.ref fI, [self])) (few : us.length ≤ sizeLine)
    (z : codeAny (model prog w) A (.call (.ref fI) ⟨.ref (h.objs.size + 1) :: us, []⟩) (fun r s' => match r with | .ok (.ret v) => v = .none ∧ Q (.done (.ret (.ref (h.objs.size + 1)))) s' | .ok _ => False | .error e => E e s')
      ⟨(h.push (PySem.W.kdv_tup us)).push (PySem.HandSPX.excO C h.objs.size), g, d, t, os⟩) :
    wpAny (model prog w) A (Builtin.«type.__call__» ⟨.ref C :: us, []⟩) Q E ⟨h, g, d, t, os⟩ := by
  repeat (first | with_reducible refine wpAny_loadPart_at at_ ?_ | with_reducible refine wpAny_madeBy_exc at_ ?_ | wp_step)
  refine codeAny_call_builtin_code (Code.quiet_builtin _ F.quiet) (chkNew F T at_ (runNew F T at_ ?_ few))
  show wpAny _ _ _ _ _ _
  have kp : ∀ b o, h.get? b = some o → ((h.push (PySem.W.kdv_tup us)).push (PySem.HandSPX.excO C h.objs.size)).get? b = some o := fun b o e => Heap.get?_push_of_some _ (Heap.get?_push_of_some _ e)
  have at1 := kp _ _ at_
  have here : ((h.push (PySem.W.kdv_tup us)).push (PySem.HandSPX.excO C h.objs.size)).get? (h.objs.size + 1) = some (PySem.HandSPX.excO C h.objs.size) := by heap_get
  have own : (Value.ref C :: bm).contains (.ref C) = true := by simp
  have i1 := hi.keeps kp
  have b1 := (hb (.ref (h.objs.size + 1))).keeps kp
  unfold isInstance
  repeat (first | with_reducible refine wpAny_loadPart_at here ?_ | (with_reducible refine wpAny_isSubtype_exc at1 ?_; rw [own]) | wp_step)
  show wpAny _ _ (typeLookup (.ref C) _) _ _ _
  refine i1.at (wpAny_holding (wpAny_bind (b1.at ?_)))
  refine wpAny_bind (wpAny_call (codeAny_mono z fun r s' y => ?_))
  rcases r with e | (v | _ | _ | _) <;> first | exact y | exact y.elim | skip
  obtain ⟨rfl, y⟩ := y
  first
    | exact wpAny_pure (wpAny_pure y)
    | (wp_walk; exact y)
/-- the class is called -/
theorem call2 (F : ExcBaseFacts B nw ini tl) (T : TailOk B (.ref C :: bm)) {us : List Value} {fI : Addr} (at_ : h.get? C = some (excClassObj nm q C N bs bm hdct sn sub ab col dd k0 k1 k2 k3 k5 nw))
    (hi : PySem.W.Looks (model prog w) h (typeLookup (.ref C) "__init__") (some (.ref fI))) (hb : ∀ self, PySem.W.Looks (model prog w) h (bindSpecial (.ref fI) self) (.ref fI, [self])) (few : us.length ≤ sizeLine)
    (z : codeAny (model prog w) (A.under (.builtin "type.__call__" ⟨.ref C :: us, []⟩)) (.call (.ref fI) ⟨.ref (h.objs.size + 1) :: us, []⟩) (PySem.W.InitBack (h.objs.size + 1) R) ⟨(h.push (PySem.W.kdv_tup us)).push (PySem.HandSPX.excO C h.objs.size), g, d, t, os⟩) :
    codeAny (model prog w) A (.call (.ref C) ⟨us, []⟩) R ⟨h, g, d, t, os⟩ := by
  have f1 := tc_lookup
  have f2 := tc_bind (.ref C)
  have ty : (⟨h, g, d, t, os⟩ : Shared).TypeIs (.ref C) "type" := ⟨_, at_, rfl⟩
  refine codeAny_of_tree ?_
  show wpAny _ _ (callAny (.ref C) _) _ _ _
  repeat (any_goals (first | assumption | with_reducible refine wpAny_loadPart_at at_ ?_ | wp_step))
  refine ⟨rfl, ?_⟩
  refine codeAny_call_builtin_at (Code.quiet_builtin _ (by decide +kernel)) entry_typeCall (wpAny_check_type_call_sub at_ (typeCall2 F T at_ hi hb few ?_))
  refine codeAny_mono z fun r s' y => ?_
  rcases r with e | (v | _ | _ | _) <;> exact y
end
/-- what is asked of the __init__ of a built-in error -/
structure IniF (B ini : String) : Prop where
  plain : plainId ini = true
  entry : entryFor table ini = some Builtin.«BaseException.__init__»
  kind : builtinKind ini = some .slot
  row : Manifest.signature? ini = some ⟨.positional, "*", B, .self, [⟨"args", .varPos, false⟩]⟩
  star : (B != "*") = true
theorem iniOf {B nw ini : String} (F : ExcCallFacts B nw ini) : IniF B ini := ⟨F.init.plain, F.initEntry, F.initKind, F.initRow, F.noStar⟩
section
variable {M : Model} {A : Around} {E : Value → Shared → Prop} {h : Heap} {g : Array GenState} {d : Drawn} {t : Nat} {os : OsState}
/-- the look ahead of a bound __init__ -/
theorem chkIni {B ini nw : String} (F : IniF B ini) {nm q : Str} {C N e : Addr} {oe : Obj} {bs bm : List Value} {hdct : Bool} {sn : List Str} {sub : List Value} {ab : Bool} {col : Option Bool} {dd : Option Addr} {k0 k1 k2 k3 k5 : Option Value} {us : List Value} {Q : Unit → Shared → Prop}
    (at_ : h.get? C = some (excClassObj nm q C N bs bm hdct sn sub ab col dd k0 k1 k2 k3 k5 nw)) (he : h.get? e = some oe) (hcls : oe.cls = .ref C) (z : Q () ⟨h, g, d, t, os⟩) : wpAny M A (checkBoundCall ini ⟨.ref e :: us, []⟩) Q E ⟨h, g, d, t, os⟩ := by
  have st := F.star
  simp only [checkBoundCall, F.kind, F.row]
  repeat (first | (with_reducible refine wpAny_loadPart_at he ?_; rw [hcls]) | with_reducible refine wpAny_loadPart_at at_ ?_ | wp_step)
  refine wpAny_onRaise ?_
  rw [show ∀ (a b : String) (n : Nat), Bind.check ⟨.positional, "*", B, .self, [⟨"args", .varPos, false⟩]⟩ a b n (List.map (fun x => x.fst) ({ pos := Value.ref e :: us } : Args).kw) = pure () from fun a b n => check_star_args _ _ _ _ _ _]
  exact wpAny_pure z
end
end Cr
/-! own errors over any built-in error: fields stored, the making, super().__init__(..) -/
namespace Cr
open PySem PySem.Spec PyProof.Rows L2
open Builtin Builtin.ObjectAttr
/-- a built-in error: its name, its __new__ and __init__, its chain -/
structure XB where
  B : String
  nw : String
  ini : String
  tl : List Value
structure XB.Ok (b : XB) : Prop where
  made : ∃ Bn inN tlN, ExcBaseFacts Bn b.nw inN tlN ∧ TailOk Bn b.tl
  inif : IniF b.B b.ini
  sup : PySem.W.KxsFacts b.B b.ini
  free : ∀ self : Value, refuseLoop self "__setattr__" b.tl = pure ()
  obj : b.tl.contains (.type "object") = true
abbrev xbV : XB := ⟨"ValueError", "ValueError.__new__", "ValueError.__init__", [.type "ValueError", .type "Exception", .type "BaseException", .type "object"]⟩
abbrev xbR : XB := ⟨"RuntimeError", "RuntimeError.__new__", "RuntimeError.__init__", [.type "RuntimeError", .type "Exception", .type "BaseException", .type "object"]⟩
theorem ok_xb {b : XB} (F : ExcBaseFacts b.B b.nw b.ini b.tl) (s : PySem.W.KxsFacts b.B b.ini) (f : ∀ self : Value, refuseLoop self "__setattr__" b.tl = pure ()) (o : b.tl.contains (.type "object") = true) : b.Ok :=
  ⟨⟨_, _, _, F, F.hasB, F.noAttr, F.noName⟩, iniOf F.toExcCallFacts, s, f, o⟩
theorem xbV_ok : xbV.Ok := ok_xb F.excBase_ValueError PySem.W.kxs_ValueError F.store_ValueError.passes (by decide +kernel)
theorem xbR_ok : xbR.Ok := ok_xb F.excBase_RuntimeError PySem.W.kxs_RuntimeError F.store_RuntimeError.passes (by decide +kernel)
/-- own classes, then the chain -/
def downTo (tl : List Value) : List Value → Bool
  | .ref _ :: r => downTo tl r
  | l => l == tl
theorem down_or {tl l : List Value} (h : downTo tl l = true) : (∃ c r, l = .ref c :: r ∧ downTo tl r = true) ∨ l = tl := by
  unfold downTo at h
  split at h
  · exact .inl ⟨_, _, rfl, h⟩
  · exact .inr (beq_iff_eq.mp h)
theorem down_free {tl : List Value} (self : Value) (ht : refuseLoop self "__setattr__" tl = pure ()) : ∀ l : List Value, downTo tl l = true → refuseLoop self "__setattr__" l = pure ()
  | [], h => by
    rcases down_or h with ⟨_, _, z, _⟩ | rfl
    · cases z
    · exact ht
  | v :: r, h => by
    rcases down_or h with ⟨c, r', z, k⟩ | z
    · cases z
      rw [refuseLoop_ref]
      exact down_free self ht r k
    · rw [z]
      exact ht
theorem down_has {tl : List Value} (Y : String) : ∀ l : List Value, downTo tl l = true → l.contains (.type Y) = tl.contains (.type Y)
  | [], h => by
    rcases down_or h with ⟨_, _, z, _⟩ | rfl
    · cases z
    · rfl
  | v :: r, h => by
    rcases down_or h with ⟨c, r', z, k⟩ | z
    · cases z
      rw [List.contains_cons, down_has Y r k]
      rfl
    · rw [z]
theorem XB.Ok.tail {b : XB} (h : b.Ok) {C : Addr} {bm : List Value} (d : downTo b.tl bm = true) : ∃ Bn inN tlN, ExcBaseFacts Bn b.nw inN tlN ∧ TailOk Bn (.ref C :: bm) := by
  obtain ⟨Bn, inN, tlN, F, T⟩ := h.made
  refine ⟨Bn, inN, tlN, F, TailOk.up ⟨?_, ?_, ?_⟩⟩
  · rw [down_has _ _ d]; exact T.has
  · rw [down_has _ _ d]; exact T.noA
  · rw [down_has _ _ d]; exact T.noN
/-- what the written part says of an own error's class -/
structure OexG (K : PySem.W.Frag) (C : Addr) (b : XB) : Prop where
  ok : b.Ok
  cls : ∃ nm q N bs bm sn sub ab col dd k0 k1 k2 k3 k5, K.lookup C = some (excClassObj nm q C N bs bm true sn sub ab col dd k0 k1 k2 k3 k5 b.nw) ∧ downTo b.tl bm = true
  sa : PySem.W.findIn K (.ref C) "__setattr__" = some (some (.builtin "object.__setattr__"))
  exC : PySem.W.subIn K (.ref C) (.type "BaseException") = some true
  tyC : PySem.W.typeIn K (.ref C) = some (.type "type")
  kC : PySem.W.keepIn K (.ref C) = true
section
variable {prog : Program} {w : World} {A : Around} {R : Result → Shared → Prop} {hp : Heap} {g : Array GenState} {d : Drawn} {t : Nat} {os : OsState}
/-- the way of object.__setattr__ up to the own dict -/
theorem osaG {K : PySem.W.Frag} {name : Str} {tk : Tok} {v : Value} {x C : Addr} {ox : Obj} {od : Option Obj} {cd : ClassData} {b : XB} (hb : b.Ok) (X : K.In hp) (I : PySem.W.InstAt hp x ox C od) (hcd : PySem.W.clsIn K C = some cd) (hm : downTo b.tl cd.mro = true) (ha : PySem.W.findIn K (.ref C) name = some none)
    (go : ∀ Q : Fin → Shared → Prop, (∀ s', R (.ok (.ret .none)) s' → Q (.done (.ret .none)) s') → wpAny (model prog w) A.in1 (storeInOwnDict (.ref x) (.ref C) (.str name tk) name v false) Q (fun e s' => R (.error e) s') ⟨hp, g, d, t, os⟩) :
    codeAny (model prog w) A (.call (.builtin "object.__setattr__") ⟨[.ref x, .str name tk, v], []⟩) R ⟨hp, g, d, t, os⟩ := by
  have SF := F.store_object
  have has : cd.mro.contains (.type "object") = true := (down_has "object" _ hm).trans hb.obj
  have full : cd.mro.isEmpty = false := by
    cases e : cd.mro with
    | nil => rw [e] at has; exact absurd has (by decide)
    | cons _ _ => rfl
  have isO : PySem.W.Looks (model prog w) hp (isInstance (.ref x) (.type "object")) true := I.type.andThen (PySem.W.looks_mroIn X (by unfold PySem.W.mroIn; rw [hcd, Option.bind_some, if_neg (by rw [full]; decide), has]))
  refine codeAny_call_builtin SF.slot.plain SF.entry (@PySem.W.check_slot (model prog w) _ _ ⟨hp, g, d, t, os⟩ "object.__setattr__" "object" "__setattr__" (.ref x) [.str name tk, v] [] _ SF.kind SF.split isO (SF.args (.ref x) (.str name tk) v) ?_)
  have line : PySem.W.Looks (model prog w) hp (mroOf (.ref C)) cd.mro := (PySem.W.looks_clsIn X hcd).andThen .now
  have none_ : PySem.W.Looks (model prog w) hp (storeTaker? none) none := .now
  rw [PySem.W.osa_eq, refuse_eq]
  refine wpAny_bind (wpAny_bind (I.type.at (wpAny_bind (line.at ?_))))
  rw [down_free _ (hb.free _) _ hm]
  refine wpAny_pure (wpAny_bind (I.type.at (wpAny_bind ((PySem.W.looks_findIn X ha).at (wpAny_bind (none_.at ?_))))))
  exact go _ fun s' h => h
end
end Cr
namespace Cr
open PySem PySem.Spec PyProof.Rows L2
open Builtin Builtin.ObjectAttr
section
variable {prog : Program} {w : World} {A : Around} {R : Result → Shared → Prop} {hp : Heap} {g : Array GenState} {d : Drawn} {t : Nat} {os : OsState}
/-- the first field: the dict is made -/
theorem osaG_new {K : PySem.W.Frag} {name : Str} {tk : Tok} {v : Value} {x C : Addr} {fv : Array Value} {cd : ClassData} {b : XB} (hb : b.Ok) (X : K.In hp) (hx : hp.get? x = some { cls := .ref C, data := .fields fv }) (hcd : PySem.W.clsIn K C = some cd) (hm : downTo b.tl cd.mro = true) (hh : cd.hasDict = true)
    (ha : PySem.W.findIn K (.ref C) name = some none)
    (hq : ∀ h' tk' dx, (∀ c o, c ≠ x → hp.get? c = some o → h'.get? c = some o) → hp.objs.size ≤ dx → dx ≠ x → h'.get? x = some { cls := .ref C, dict := some dx, data := .fields fv } →
      h'.Ns1 dx (fun y => if y = name then some v else none) → R (.ok (.ret .none)) ⟨h', g, d, tk', os⟩) :
    codeAny (model prog w) A (.call (.builtin "object.__setattr__") ⟨[.ref x, .str name tk, v], []⟩) R ⟨hp, g, d, t, os⟩ := by
  refine osaG hb X (ox := { cls := .ref C, data := .fields fv }) (od := none) ⟨hx, rfl, rfl, trivial⟩ hcd hm ha fun Q hQ => ?_
  have far : x ≠ hp.objs.size := Nat.ne_of_lt (Heap.lt_size hx)
  have hc : PySem.W.Looks (model prog w) hp (classData C) cd := PySem.W.looks_clsIn X hcd
  obtain ⟨nm, bs, mro, ns, qn, hd, sn, sb, ab, col, dl⟩ := cd
  cases hh
  unfold storeInOwnDict ownDictForStores
  repeat (first | with_reducible refine PySem.HandSPX.store_in_new ?_ ?_ | with_reducible refine wpAny_loadPart_at hx ?_ | with_reducible refine hc.at ?_ | wp_step)
  · exact ⟨_, #[], _, (Heap.get?_update_ne _ _ _ _ far.symm).trans (Heap.get?_push_at rfl rfl), rfl, (fun e he => by simp at he), fun _ => rfl⟩
  · intro h' tk' hn hs
    refine hQ _ (hq h' tk' hp.objs.size (fun c o hc ho => ?_) (Nat.le_refl _) far.symm ?_ hn)
    · rw [hs.2 c (Nat.ne_of_lt (Heap.lt_size ho)), Heap.get?_update_ne _ _ _ _ hc]
      exact Heap.get?_push_of_some _ ho
    · rw [hs.2 x far]
      exact Heap.get?_update_self _ (Heap.get?_push_of_some _ hx) rfl
/-- a further field -/
theorem osaG_old {K : PySem.W.Frag} {name : Str} {tk : Tok} {v : Value} {x C dx : Addr} {fv : Array Value} {cd : ClassData} {m0 : Str → Option Value} {nl : List Str} {b : XB} (hb : b.Ok) (X : K.In hp) (hx : hp.get? x = some { cls := .ref C, dict := some dx, data := .fields fv }) (hns : hp.Ns1 dx m0) (hw : Within m0 nl) (hz : nl.length ≤ 1000)
    (hcd : PySem.W.clsIn K C = some cd) (hm : downTo b.tl cd.mro = true) (hh : cd.hasDict = true) (ha : PySem.W.findIn K (.ref C) name = some none)
    (hq : ∀ h' tk', (∀ c o, c ≠ dx → hp.get? c = some o → h'.get? c = some o) → h'.Ns1 dx (fun y => if y = name then some v else m0 y) → R (.ok (.ret .none)) ⟨h', g, d, tk', os⟩) :
    codeAny (model prog w) A (.call (.builtin "object.__setattr__") ⟨[.ref x, .str name tk, v], []⟩) R ⟨hp, g, d, t, os⟩ := by
  obtain ⟨oD, _, _, hoD, _, _⟩ := hns.count hw
  refine osaG hb X (ox := { cls := .ref C, dict := some dx, data := .fields fv }) (od := some oD) ⟨hx, rfl, rfl, hoD⟩ hcd hm ha fun Q hQ => ?_
  have hc : PySem.W.Looks (model prog w) hp (classData C) cd := PySem.W.looks_clsIn X hcd
  obtain ⟨nm, bs, mro, ns, qn, hd, sn, sb, ab, col, dl⟩ := cd
  cases hh
  unfold storeInOwnDict ownDictForStores
  repeat (first | with_reducible refine PySem.OEX.store_in_old hns hw hz ?_ | with_reducible refine wpAny_loadPart_at hx ?_ | with_reducible refine hc.at ?_ | wp_step)
  intro h' tk' hn hs
  exact hQ _ (hq h' tk' (fun c o hc ho => (hs.2 c hc).trans ho) hn)
end
section
variable {X : Cx} {pins : List (Addr × Obj)} {σ : L2.St} {H : Hp} {s : Shared} {a C dx : Addr} {b : XB} {f : Str} {y : V} {u : Value} {fs : List (Str × V)} {Q : Unit → Shared → Prop} {E : Value → Shared → Prop} {A : Around}
theorem ostG_new (T : OexG X.K C b) (I : Inv X pins σ H s) (e : H a = some (exo a C none)) (hno : PySem.W.findIn X.K (.ref C) f = some none) (ry : RelV y u)
    (h : ∀ dx s', H dx = none → dx ≠ a → Inv X pins σ (upd (upd H dx (exd dx [(f, y)])) a (exo a C (some dx))) s' → Q () s') : wpAny (model X.prog X.w) A (setAttr (.ref a) f u) Q E s := by
  obtain ⟨nm, q, N, bs, bm, sn, sub, ab, col, dd, k0, k1, k2, k3, k5, hC, hbm⟩ := T.cls
  have hcl : PySem.W.clsIn X.K C = some { name := nm, bases := bs, mro := .ref C :: bm, ns := N, qualname := q, hasDict := true, slotNames := sn, subclasses := sub, abstract := ab, collection := col, hasDel := false } := by unfold PySem.W.clsIn; rw [hC] <;> rfl
  obtain ⟨t1, ho⟩ := exo_at I.hok e
  obtain ⟨hp, g, d, t, os⟩ := s
  refine PySem.W.set_plain I.kIn (ox := { cls := .ref C, dict := none, data := .fields #[.ref t1, .none, .none, .none, .bool false, .none] }) (od := none) ⟨ho, rfl, rfl, trivial⟩ T.sa ?_
  refine osaG_new T.ok I.kIn ho hcl (show downTo b.tl (.ref C :: bm) = true from hbm) rfl hno (fun h' tk' dx k dn dne hx hn => ?_)
  have new : H dx = none := I.hok.fresh dn
  have old : ∀ {c : Addr} {o : Obj}, hp.get? c = some o → c ≠ dx := fun q => Nat.ne_of_lt (Nat.lt_of_lt_of_le (Heap.lt_size q) dn)
  have notA : ∀ {c : Addr}, H c = none → c ≠ a := fun n z => by rw [z, e] at n; cases n
  have atA : ∀ {c : Addr} {o : HO}, H c = some o → exo a C none ≠ o → upd (upd H dx (exd dx [(f, y)])) a (exo a C (some dx)) c = some o := fun q n => by
    rw [upd_ne (at_ne e q n), upd_ne (ne_of_none q new)]
    exact q
  have stays : Un X.fs [] H (upd (upd H dx (exd dx [(f, y)])) a (exo a C (some dx))) hp h' := {
    keep := fun c o q n _ _ => k c o (notA n) q
    slot := fun c o q n _ _ => ⟨o.slots, k c o (notA n) q⟩
    free := fun c o q n _ => by rw [upd_ne (notA n), upd_ne (old q)]; exact n
    there := fun c o q _ => by
      by_cases hc : c = a
      · subst hc
        exact ⟨_, hx⟩
      · exact ⟨o, k c o hc q⟩
    tups := fun c xs q => atA q exo_tup
    frzs := fun c o v q => atA q exo_frz
    tbls := fun c ps q => ⟨#[], by rw [atA q exo_tbl]; simp⟩ }
  refine h dx _ new dne (I.un (t' := tk') stays fun c o q => ?_)
  by_cases ca : c = a
  · subst ca
    rw [upd_same] at q
    cases q
    exact exo_ok hx
  rw [upd_ne ca] at q
  by_cases cd : c = dx
  · subst cd
    rw [upd_same] at q
    cases q
    exact exd_ok hn (relO_put (fs := []) ry fun _ => True.intro)
  rw [upd_ne cd] at q
  refine (I.hok c o q).stay (fun c' v hc z => k c' v ?_ z) (fun c' hc => atA hc exo_own) (fun c' xs hc => atA hc exo_tup)
  rcases hc with hc | hc
  · rw [hc]; exact ca
  · exact at_ne e hc exo_own
theorem ostG_old (T : OexG X.K C b) (I : Inv X pins σ H s) (e : H a = some (exo a C (some dx))) (ed : H dx = some (exd dx fs)) (hl : fs.length ≤ 900) (hno : PySem.W.findIn X.K (.ref C) f = some none) (ry : RelV y u)
    (h : ∀ s', Inv X pins σ (upd H dx (exd dx ((f, y) :: fs))) s' → Q () s') : wpAny (model X.prog X.w) A (setAttr (.ref a) f u) Q E s := by
  obtain ⟨nm, q, N, bs, bm, sn, sub, ab, col, dd, k0, k1, k2, k3, k5, hC, hbm⟩ := T.cls
  have hcl : PySem.W.clsIn X.K C = some { name := nm, bases := bs, mro := .ref C :: bm, ns := N, qualname := q, hasDict := true, slotNames := sn, subclasses := sub, abstract := ab, collection := col, hasDel := false } := by unfold PySem.W.clsIn; rw [hC] <;> rfl
  obtain ⟨t1, ho⟩ := exo_at I.hok e
  obtain ⟨mA, hns, rel⟩ := exd_at I.hok ed
  obtain ⟨hp, g, d, t, os⟩ := s
  obtain ⟨oD, _, _, hoD, _, _⟩ := hns.count (within_of rel)
  refine PySem.W.set_plain I.kIn (ox := { cls := .ref C, dict := some dx, data := .fields #[.ref t1, .none, .none, .none, .bool false, .none] }) (od := some oD) ⟨ho, rfl, rfl, hoD⟩ T.sa ?_
  refine osaG_old T.ok I.kIn ho hns (within_of rel) (by rw [List.length_map]; omega) hcl (show downTo b.tl (.ref C :: bm) = true from hbm) rfl hno (fun h' tk' k hn => h _ ?_)
  have there : ∃ o, h'.get? dx = some o := by
    obtain ⟨o, _, _, z, _⟩ := hn
    exact ⟨o, z⟩
  exact I.write (t' := tk') (x := dx) (e := dx) (o := exd dx ((f, y) :: fs)) (by rw [ed]; exact True.intro) (.inl rfl) k there (exd_ok hn (relO_put ry rel))
end
/-- self.f = e in an own error's __init__ -/
def tOstG (K : PySem.W.Frag) (f : Str) (to te : TE) : TS := fun D σ H => te σ H fun y H1 => to σ H1 fun x H2 => ∃ (a C : Addr) (b : XB), x = .ref a ∧ OexG K C b ∧ PySem.W.findIn K (.ref C) f = some none ∧
  ((H2 a = some (exo a C none) ∧ ∀ dx, H2 dx = none → dx ≠ a → D.nx σ (upd (upd H2 dx (exd dx [(f, y)])) a (exo a C (some dx)))) ∨
    ∃ (dx : Addr) (fs : List (Str × V)), H2 a = some (exo a C (some dx)) ∧ H2 dx = some (exd dx fs) ∧ fs.length ≤ 900 ∧ D.nx σ (upd H2 dx (exd dx ((f, y) :: fs))))
section
variable {X : Cx} {o e : Expr} {es : List Expr} {to te : TE} {ta : TA} {f : Str} {p p' pos : Pos}
theorem ps_ostG (ho : PE X o to) (he : PE X e te) (hs : swapsWith e (some (.Attribute o f p')) pos.line X.env = pure false := by rfl) : PS X (.Assign [.Attribute o f p'] e pos) (tOstG X.K f to te) := by
  constructor
  intro pins s σ H D I h
  refine plainObj_wpAny_Assign_Attribute (thn (he.run pins s σ H _ I h) ?_) hs
  rintro v s1 ⟨y, H1, I1, r1, q1⟩
  refine thn (ho.run pins s1 σ H1 _ I1 q1) ?_
  rintro u s2 ⟨x, H2, I2, r2, a, C, b, rfl, T, hno, q⟩
  obtain rfl : u = Value.ref a := r2
  rcases q with ⟨ea, q⟩ | ⟨dx, fs, ea, ed, hl, q⟩
  · exact ostG_new T I2 ea hno r1 fun dx s' n ne J => ⟨σ, _, J, q dx n ne⟩
  · exact ostG_old T I2 ea ed hl hno r1 fun s' J => ⟨σ, _, J, q⟩
/-- C(e, ..) by its own __init__, to be raised -/
theorem pmkG {CX : CXT} {x : Str} {C fI : Addr} {b : XB} {k : Nat} {fd : FuncData} {ps : List Str} {sp : Sp} {ds : List Value} {dvs : List V} (T : OexG X.K C b) (iC : PySem.W.findIn X.K (.ref C) "__init__" = some (some (.ref fI))) (tI : PySem.W.typeIn X.K (.ref fI) = some (.type "function"))
    (F1 : FnOk X.prog X.w X.K X.mg X.base CX k fI fd ps sp) (hr : Room (k + 1) X.A) (hb : Binds X.K fd ps ds) (hd : Vals dvs ds) (hx : Passes CX X (fun _ _ _ => False)) (hg : Gl X x) (hm : X.mg x = some (.ref C)) (ha : PA X (e :: es) ta)
    (hdb : (x == ("__debug__" : Str)) = false := by decide) (he : starEach (e :: es) X.env = (false, eval e X.env) :: starEach es X.env := by rfl) (hpl : (backTo pos (starEach es X.env)).any (·.1) = false := by rfl) :
    PMk X (.Call (.Name x p) (e :: es) [] pos) (tMkO C sp dvs ta) := by
  intro pins s σ H Q I h
  obtain ⟨nm, q, N, bs, bm, sn, sub, ab, col, dd, k0, k1, k2, k3, k5, hC, hbm⟩ := T.cls
  refine wpAny_Call_Name_kw (ld_glob I hg hm ?_ hdb)
  refine PySem.W.callWith_K (h₀ := X.base) I.ok.mod.kin T.kC (thn (ha.run pos pins s σ H _ I h) ?_) he hpl
  rintro us ⟨hp, g, dr, tk, os⟩ ⟨vs, H1, I1, r1, hz, q1⟩
  refine ⟨I1.kIn, ?_⟩
  show wpAny _ _ (call (.ref C) us) _ _ _
  have up : hp.objs.size ≤ hp.objs.size + 1 := Nat.le_succ _
  have go := q1 (hp.objs.size + 1) (I1.hok.fresh up)
  generalize eH : (hp.push (PySem.W.kdv_tup us)).push (PySem.HandSPX.excO C hp.objs.size) = hh
  have kk : ∀ c o, hp.get? c = some o → hh.get? c = some o := fun c o z => by rw [← eH]; exact Heap.get?_push_of_some _ (Heap.get?_push_of_some _ z)
  have here : hh.get? (hp.objs.size + 1) = some (PySem.HandSPX.excO C hp.objs.size) := by rw [← eH]; heap_get
  have I2 : Inv X pins σ (upd H1 (hp.objs.size + 1) (exo (hp.objs.size + 1) C none)) ⟨hh, g, dr, tk, os⟩ := I1.laid (t' := tk) kk up (exo_ok here)
  have rel : Vals (V.ref (hp.objs.size + 1) :: (vs ++ dvs)) (Value.ref (hp.objs.size + 1) :: (us ++ ds)) := .cons rfl (r1.append hd)
  have size : (Value.ref (hp.objs.size + 1) :: us ++ ds).length = ps.length := rel.length.symm.trans (F1.len _ _ _ _ go)
  have few : us.length ≤ sizeLine := by
    rw [← Paired.length r1, sizeLine_eq]
    omega
  obtain ⟨Bn, inN, tlN, FN, TN⟩ := T.ok.tail (C := C) hbm
  refine wpAny_call (call2 FN TN (I1.kIn _ _ hC) (PySem.W.looks_findIn I1.kIn iC) (fun self => PySem.W.bind_fn I1.kIn self tI) few ?_)
  rw [eH]
  refine codeAny_mono (F1.run _ X.stack _ _ ⟨Value.ref (hp.objs.size + 1) :: us, []⟩ (Value.ref (hp.objs.size + 1) :: (us ++ ds)) _ _ (fun _ _ _ => False) (hr.make C us []) (I2.env0.make C us []) (hb _ (Value.ref (hp.objs.size + 1) :: us) I2.kIn size) rel go) ?_
  intro r s' z
  match r, z with
  | .error er, z => exact hx pins σ _ _ er s' I2 z
  | .ok .next, z => exact False.elim z
  | .ok .brk, z => exact False.elim z
  | .ok .cont, z => exact False.elim z
  | .ok (.ret u), ⟨v, H2, os2, bare2, un2, hok2, rv, ev, d, fs, ea, ed, hd1, q2⟩ =>
    subst ev
    obtain ⟨h2, g2, d2, t2, os'⟩ := s'
    exact ⟨rv, mk_end (raises_own T.exC T.tyC) I1 up kk un2 hok2 os2 bare2 ea ed hd1 q2⟩
end
/-! ### super().__init__(..) first -/
structure SupG (P : Program) (K : PySem.W.Frag) (C cda cc : Addr) (b : XB) : Prop where
  oex : OexG K C b
  code : ∃ ccl cdd cvs ccs file tf, K.lookup cda = some ⟨ccl, cdd, .fields cvs, ccs⟩ ∧ cvs[2]? = some (.str file tf) ∧ ((P.main.file : Str) == file) = true
  cell : ∃ cl cld csl, K.lookup cc = some ⟨cl, cld, .cell (some (.ref C)), csl⟩
  self : PySem.W.mroIn K C (.ref C) = some true
  opq : PySem.W.nsIn K cStatics "thirdparty.any" = some none
  up : PySem.W.ks_superIn K C C "__init__" = some (some (.builtin b.ini))
  sub : PySem.W.subIn K (.ref C) (.type b.B) = some true
  top : (P.main.scope.names.lookup ("super" : Str)).isSome = false
section
variable {P : Program} {w : World} {K : PySem.W.Frag} {mg : Str → Option Value} {base : Heap}
/-- the bound __init__ of the base, called -/
theorem boundG {X : Cx} {pins : List (Addr × Obj)} {σ : L2.St} {H : Hp} {s : Shared} {a C u : Addr} {b : XB} {A : Around} {E : Value → Shared → Prop} {us : List Value} {Q : Value → Shared → Prop} (T : OexG X.K C b) (I : Inv X pins σ H s) (e : H a = some (exo a C none))
    (hu : s.heap.get? u = some (PySem.W.kxs_mw b.ini a)) (hl : us.length ≤ sizeLine) (h : ∀ s', Inv X pins σ H s' → Q .none s') : wpAny (model X.prog X.w) A (call (.ref u) us) Q E s := by
  obtain ⟨nm, q, N, bs, bm, sn, sub, ab, col, dd, k0, k1, k2, k3, k5, hC, hbm⟩ := T.cls
  obtain ⟨t1, ho⟩ := exo_at I.hok e
  have hC' := I.kIn _ _ hC
  obtain ⟨hp, g, d, t, os⟩ := s
  refine wpAny_call (codeAny_of_tree ?_)
  show wpAny _ A.in1 (callAny (.ref u) ⟨us, []⟩) _ _ _
  simp only [callAny]
  refine wpAny_bind (wpAny_load hu ?_)
  simp only [PySem.W.kxs_mw, show (Value.type "method-wrapper" == Value.type "method" || Value.type "method-wrapper" == Value.type "builtin_function_or_method" || Value.type "method-wrapper" == Value.type "method-wrapper") = true by decide, if_true]
  refine PySem.W.KFB.if_so (by decide) ?_
  refine wpAny_bind (chkIni T.ok.inif hC' ho rfl ?_)
  refine wpAny_bind (wpAny_pure (wpAny_pure ?_))
  refine ⟨plainId_quiet T.ok.inif.plain _, codeAny_builtin T.ok.inif.entry ?_⟩
  refine PySem.W.exc_init_tree (cls := .ref C) (t0 := t1) (dv := none) (c2 := .none) (c3 := .none) (b4 := .bool false) ho hl fun h' k hx _ => ?_
  have J := I.write (t' := t) (x := a) (e := a) (o := exo a C none) (by rw [e]; exact True.intro) (.inl rfl) k ⟨_, hx⟩ (exo_ok hx)
  have eu : upd H a (exo a C none) = H := by
    funext b
    by_cases hb : b = a
    · rw [hb, upd_same, e]
    · rw [upd_ne hb]
  rw [eu] at J
  exact h _ J
/-- THE RULE: def __init__(self, ..): super().__init__(e, ..); rest -/
theorem okSupG {name qual : Str} {params : Arguments} {scope : Scope} {dV kV doc pm ct oc : Value} {an od : Option Addr} {osl : Array (Option Value)} {f C cda cc : Addr} {b : XB} {N ps : List Str} {k : Nat} {sp : Sp}
    {p0 p1 p2 p3 p4 : Pos} {e : Expr} {es : List Expr} {rest : List Stmt} {ar : Arg}
    (lk : K.lookup f = some ⟨oc, od, .func (PySem.W.ksFn name qual params (.Expr (.Call (.Attribute (.Call (.Name "super" p0) [] [] p1) "__init__" p2) (e :: es) [] p3) p4 :: rest) scope dV kV doc pm an (.ref cda) ct cc), osl⟩)
    (hcd : PySem.W.codeIn K (.ref cda) qual = true) (S : SupScope N ps scope) (T : SupG P K C cda cc b) (hsup : mg "super" = none)
    (hp0 : (params.posonlyargs ++ params.args).head? = some ar) (hself : N[0]? = some ar.arg) (hps : ar.arg ∈ ps)
    (len : ∀ vs H Q E, sp vs H Q E → vs.length = ps.length)
    (hbody : ∀ (A : Around) (outer : List Env) (s : Shared) (H : Hp) (vs : List V) (Q : VK) (E : XK), sp vs H Q E →
      ∃ (a : Addr) (ta : TA) (t : TS), (L2.start N vs)[0]? = some (some (.ref a)) ∧ H a = some (exo a C none) ∧ PA (cxSup P w K mg base N qual scope f cda cc A outer s H) (e :: es) ta ∧
        PSs (cxSup P w K mg base N qual scope f cda cc A outer s H) rest t ∧
        ta (L2.start N vs) H fun ws H1 => ws.length ≤ 1000 ∧ H1 a = some (exo a C none) ∧ t { nx := fun _ H' => Q .non H', rt := Q } (L2.start N vs) H1)
    {pl : Addr → Sem Bool}
    (hc : ∀ L : Addr, eval (.Call (.Attribute (.Call (.Name "super" p0) [] [] p1) "__init__" p2) (e :: es) [] p3) (PySem.W.ksEnv qual scope L f (.ref cda) cc) = (do
      let ov ← attributeBase (.Call (.Name "super" p0) [] [] p1) "__init__" (PySem.W.ksEnv qual scope L f (.ref cda) cc) (eval (.Call (.Name "super" p0) [] [] p1) (PySem.W.ksEnv qual scope L f (.ref cda) cc))
      standAt p2.atName
      let (fx, first) ← holding [ov] (getMethod ov "__init__" (pl L))
      callWith p3 fx first (backTo p3 (starEach (e :: es) (PySem.W.ksEnv qual scope L f (.ref cda) cc))) []) := by intro _; rfl)
    (hint : ∀ L : Addr, interactive (PySem.W.ksEnv qual scope L f (.ref cda) cc) = false := by intro _; rfl)
    (hsw : ∀ L : Addr, swapsWith (.Call (.Attribute (.Call (.Name "super" p0) [] [] p1) "__init__" p2) (e :: es) [] p3) none p4.line (PySem.W.ksEnv qual scope L f (.ref cda) cc) = pure false := by intro _; rfl)
    (he : ∀ L : Addr, starEach (e :: es) (PySem.W.ksEnv qual scope L f (.ref cda) cc) = (false, eval e (PySem.W.ksEnv qual scope L f (.ref cda) cc)) :: starEach es (PySem.W.ksEnv qual scope L f (.ref cda) cc) := by intro _; rfl)
    (hpl : ∀ L : Addr, (backTo p3 (starEach es (PySem.W.ksEnv qual scope L f (.ref cda) cc))).any (·.1) = false := by intro _; rfl) :
    FnOk P w K mg base CX0 (k + 1) f (PySem.W.ksFn name qual params (.Expr (.Call (.Attribute (.Call (.Name "super" p0) [] [] p1) "__init__" p2) (e :: es) [] p3) p4 :: rest) scope dV kV doc pm an (.ref cda) ct cc) ps sp := by
  refine ⟨len, fun A outer s H args us vs Q E hr e0 hb r hsp => ?_⟩
  have keepB : ∀ b o, base.get? b = some o → s.heap.get? b = some o := fun b o e => (e0.bs b o e).1
  obtain ⟨cl, cld, csl, hcell⟩ := T.cell
  obtain ⟨ccl, cdd, cvs, ccs, file, tf, hcode, hvs, hfile⟩ := T.code
  refine ks_codeAny_call_defAt (fd := PySem.W.ksFn name qual params _ scope dV kV doc pm an (.ref cda) ct cc) (binds := ps.zip us) hr.depth ((e0.mod.kin.keeps keepB) _ _ lk) rfl (e0.mod.nolimit.keeps keepB) (PySem.W.codeRec_of (e0.mod.kin.keeps keepB) hcd) rfl hb S.nocell
    (fun x hx => S.par x.1 (List.of_mem_zip (show (x.1, x.2) ∈ ps.zip us from hx)).1) (fun h₁ hns hk => ?_) S.co S.gen S.kind
  obtain ⟨a, ta, t, hs0, hea, hta, ht, hT⟩ := hbody A outer s H vs Q E hsp
  have I : Inv (cxSup P w K mg base N qual scope f cda cc A outer s H) [] (L2.start N vs) H { s with heap := h₁, toks := s.toks + (ps.zip us).length } := inv_sup S hr.hd e0 (len _ _ _ _ hsp) r hcell hns hk
  have kIn := I.kIn
  obtain ⟨m, hn, hlk⟩ := I.loc
  obtain ⟨u0, hu0, hl0⟩ := hlk 0 ar.arg (.ref a) hself hs0 (.inl (S.par _ hps))
  obtain rfl : u0 = Value.ref a := hu0
  have hma : m ar.arg = some (.ref a) := by
    rcases hl0 with ⟨_, z⟩ | ⟨z, _⟩
    · exact z
    · have k1 : scope.names.lookup ar.arg = some .local := S.par _ hps
      rcases z with z | z
      · have z' : scope.names.lookup ar.arg = some .cell := z
        rw [k1] at z'; cases z'
      · have z' : scope.names.lookup ar.arg = some .free := z
        rw [k1] at z'; cases z'
  obtain ⟨t1, ho⟩ := exo_at I.hok hea
  obtain ⟨nm, q, N', bs, bm, sn, sub, ab, col, dd, k0, k1, k2, k3, k5, hC, hbm⟩ := T.oex.cls
  have hcl : PySem.W.clsIn K C = some { name := nm, bases := bs, mro := .ref C :: bm, ns := N', qualname := q, hasDict := true, slotNames := sn, subclasses := sub, abstract := ab, collection := col, hasDel := false } := by unfold PySem.W.clsIn; rw [hC] <;> rfl
  obtain ⟨mb, hmb, hbb⟩ := I.mod.blt
  have J : PySem.W.InstAt h₁ a { cls := .ref C, dict := none, data := .fields #[.ref t1, .none, .none, .none, .bool false, .none] } C none := ⟨ho, rfl, rfl, trivial⟩
  have hne : a ≠ C := PySem.W.ks_ne kIn J hcl
  show PySem.wpAt (model P w) (A.deeper (PySem.W.ksEnv qual scope s.heap.objs.size f (.ref cda) cc)) (.func _ (PySem.W.ksEnv qual scope s.heap.objs.size f (.ref cda) cc)) (execs _ (PySem.W.ksEnv qual scope s.heap.objs.size f (.ref cda) cc)) _ _ _
  refine ks_wpAt_execs_cons (ks_wpAt_Expr_any (ks_wpAt_MethodCall (pl := pl s.heap.objs.size) (ks_wpAt_super_base (f := f) S.sup S.cls (by decide) rfl (kIn _ _ lk) rfl hp0 rfl (kIn _ _ hcode) rfl hvs hfile T.top ?_) (hc _)) (hint _) (hsw _))
  refine PySem.W.ks_loadName_global S.kind S.sup (PySem.Calls.loadGlobal_builtin (mg := mg) (mb := mb) (I.mod.glob.keeps I.bk) hsup (hmb.keeps I.bk) ((hbb _ (by decide +kernel)).trans (by first | boot_by_name | rfl | kernel_rfl)) ⟨rfl, ?_⟩)
  refine wpAny_loadName_free S.kind S.cls rfl ⟨_, kIn _ _ hcell, rfl⟩ ?_
  refine wpAny_loadName_local S.kind (S.par _ hps) hn hma ?_
  refine ks_wpAny_isType_cls (kIn _ _ hC) rfl ⟨rfl, ?_⟩
  refine ks_wpAny_call_super (kIn _ _ hC) rfl ho rfl (fun c z => by cases z) (PySem.W.looks_mroIn kIn T.self) (fun h2 e2 kk2 => ?_)
  have I2 : Inv (cxSup P w K mg base N qual scope f cda cc A outer s H) [] (L2.start N vs) H { s with heap := h2, toks := s.toks + (ps.zip us).length } := I.kept (t' := s.toks + (ps.zip us).length) kk2
  have hm2 := T.up
  unfold PySem.W.ks_superIn at hm2
  rw [hcl] at hm2
  have J2 : PySem.W.InstAt h2 a { cls := .ref C, dict := none, data := .fields #[.ref t1, .none, .none, .none, .bool false, .none] } C none := ⟨kk2 _ _ ho, rfl, rfl, trivial⟩
  refine PySem.W.kxs_getMethod T.oex.ok.sup e2 (PySem.W.looks_opaque I2.kIn T.opq) (l₀ := .ref C :: bm) (fun A Q E s k q => wpAny_bind ((PySem.W.looks_clsIn I2.kIn hcl) A _ E s k (wpAny_pure q))) rfl I2.kIn hm2
    (J2.type.andThen (PySem.W.looks_subIn I2.kIn T.sub)) hne (by decide) ?_
  have kk3 : ∀ b' o, h2.get? b' = some o → (h2.push (PySem.W.kxs_mw b.ini a)).get? b' = some o := fun b' o z => Heap.get?_push_of_some _ z
  have I3 : Inv (cxSup P w K mg base N qual scope f cda cc A outer s H) [] (L2.start N vs) H { s with heap := h2.push (PySem.W.kxs_mw b.ini a), toks := s.toks + (ps.zip us).length + 1 } := I2.kept (t' := s.toks + (ps.zip us).length + 1) kk3
  have I4 : Inv (cxSup P w K mg base N qual scope f cda cc A outer s H) [(h2.objs.size, PySem.W.kxs_mw b.ini a)] (L2.start N vs) H { s with heap := h2.push (PySem.W.kxs_mw b.ini a), toks := s.toks + (ps.zip us).length + 1 } :=
    ⟨I3.ok, I3.os, I3.bare, I3.base, I3.loc, I3.cell, I3.free, I3.freeC, fun p hp => by
      have hp' : p = (h2.objs.size, PySem.W.kxs_mw b.ini a) := List.mem_singleton.mp hp
      subst hp'
      exact ⟨Heap.get?_push_at rfl rfl, I2.hok.fresh (Nat.le_refl _), Nat.ne_of_gt I2.lt, I2.nofs (Nat.le_refl _), fun v z => by cases z⟩, I3.hok, I3.len⟩
  have hev := he s.heap.objs.size
  have hpv := hpl s.heap.objs.size
  show wpAny (model P w) _ (callWith p3 (.ref h2.objs.size) [] (backTo p3 (starEach (e :: es) (PySem.W.ksEnv qual scope s.heap.objs.size f (.ref cda) cc))) []) _ _ _
  have ru := hta.run p3 _ _ _ _ _ I4 hT
  have ru' : wpAny (model P w) (A.deeper (PySem.W.ksEnv qual scope s.heap.objs.size f (.ref cda) cc)) (spliced (backTo p3 (starEach (e :: es) (PySem.W.ksEnv qual scope s.heap.objs.size f (.ref cda) cc)))) _ (fun _ _ => False) _ := ru
  rw [hev] at ru' ⊢
  refine PySem.W.kxs_callWith (i := b.ini) (x := a) (by show (false || (backTo p3 (starEach es _)).any (·.1)) = false; rw [hpv]; rfl) (PySem.Calls.evalArgs_plain ?_)
  refine wpAny_mono ru' (fun ws s5 h5 => ?_) fun _ _ z => z.elim
  obtain ⟨vs5, H5, I5, r5, hl5, he5, hT5⟩ := h5
  have hu5 := (I5.pin _ (List.mem_append_right _ List.mem_cons_self)).1
  refine ⟨hu5, ?_⟩
  refine boundG T.oex I5 he5 hu5 (by show ws.length ≤ sizeLine; rw [← Paired.length r5, sizeLine_eq]; omega) fun s6 I6 => ?_
  have go := ht.run _ _ _ _ _ I6 hT5
  refine wpAt_of_wpAny ?_
  refine wpAny_mono go (fun fl s7 h7 => ?_) fun _ _ z => z.elim
  match fl, h7 with
  | .ret u, ⟨v, σ2, H2, J7, rv, q7⟩ => exact ⟨v, H2, J7.os, J7.bare, J7.base, J7.hok, rv, q7⟩
  | .next, ⟨σ2, H2, J7, q7⟩ => exact ⟨V.non, H2, J7.os, J7.bare, J7.base, J7.hok, rfl, q7⟩
  | .brk, ⟨_, _, _, q7⟩ => exact q7.elim
  | .cont, ⟨_, _, _, q7⟩ => exact q7.elim
end
end Cr
/-! len(o) by an own __len__ -/
namespace Cr
open PySem PySem.Spec PyProof.Rows L2 Evl
theorem Env0.in1 {P : Program} {w : World} {K : PySem.W.Frag} {mg : Str → Option Value} {base : Heap} {A : Around} {outer : List Env} {s : Shared} {H : Hp} (e : Env0 P w K mg base A outer s H) : Env0 P w K mg base A.in1 outer s H :=
  ⟨e.frames, e.mod, e.bs, e.bsz, e.funs, e.frf, e.hok, e.bare⟩
end Cr
/-! methods that may raise, called in a try -/
/-! defs that may raise, where no repr is under way; a caught error asked -/
namespace Cr
open PySem PySem.Spec PyProof.Rows L2 Evl
section
variable {X : Cx} {CX : CXT} {k n : Nat} {f : Addr} {fd : FuncData} {ps ks : List Str} {sp : Sp} {dvs : List V} {ds : List Value} {E : L2.St → XK} {x : Str} {p pos : Pos} {e : Expr} {es : List Expr} {kws : List Keyword} {t tk : TA}
  {g : List Value → List Value → List Value} {gV : List V → List V → List V}
theorem endG {pins : List (Addr × Obj)} {σ : L2.St} {H : Hp} {s : Shared} {Q : VK} {args : Args} {E : XK} {r : Result} {s2 : Shared} (hx : PassesAt CX X σ E) (I : Inv X pins σ H s) (z : CR CX X.stack X.prog X.w H s Q E r s2) :
    wants (EP X pins σ Q) X.xe r s2 := by
  match r, z with
  | .error e, z => exact hx pins H s e s2 I z
  | .ok (.ret u), z => exact Inv.after I z
  | .ok .next, z => exact False.elim z
  | .ok .brk, z => exact False.elim z
  | .ok .cont, z => exact False.elim z
end
/-! ### isinstance of a caught error that has its dict -/
/-! ### an error with one number -/
/-- its __init__: the number in the field f -/
def spInit (C : Addr) (f : Str) : Sp := fun vs H Q _ => ∃ (a : Addr) (i : Int), vs = [.ref a, .int i] ∧ i.natAbs.log2 < 1000 ∧ H a = some (exo a C none) ∧
  ∀ dx, H dx = none → dx ≠ a → Q .non (upd (upd H dx (exd dx [(f, .int i)])) a (exo a C (some dx)))
theorem mk_num {C : Addr} {f : Str} {ta : TA} {σ : L2.St} {H : Hp} {Q : XK} (h : ta σ H fun vs H1 => ∃ i : Int, vs = [.int i] ∧ i.natAbs.log2 < 1000 ∧ ∀ dx, H1 dx = none → Q (.ref C) (some dx) (upd H1 dx (.xd [(f, .int i)])))
    (mono : ∀ {σ : L2.St} {H : Hp} {R S : List V → Hp → Prop}, (∀ vs H1, R vs H1 → S vs H1) → ta σ H R → ta σ H S) : tMkO C (spInit C f) [] ta σ H Q := by
  refine mono (fun vs H1 hh => ?_) h
  obtain ⟨i, rfl, hi, q⟩ := hh
  refine ⟨by show 1 ≤ 1000; decide, fun a ha => ⟨a, i, rfl, hi, upd_same, fun dx hdx ne => ⟨rfl, dx, [(f, .int i)], upd_same, ?_, ?_, ?_⟩⟩⟩
  · rw [upd_ne ne, upd_same]
  · rw [upd_ne ne] at hdx
    exact hdx
  · have e : upd (del (upd (upd (upd H1 a (exo a C none)) dx (exd dx [(f, .int i)])) a (exo a C (some dx))) a) dx (.xd [(f, .int i)]) = upd H1 dx (.xd [(f, .int i)]) := by
      funext b
      by_cases hb : b = dx
      · rw [hb, upd_same, upd_same]
      · rw [upd_ne hb, upd_ne hb]
        by_cases hba : b = a
        · rw [hba, del_same, ha]
        · rw [del_ne hba, upd_ne hba, upd_ne hb, upd_ne hba]
    rw [e]
    rw [upd_ne ne] at hdx
    exact q dx hdx
end Cr
/-! the program's own defs -/
namespace Cr
open PySem PySem.Spec PyProof.Rows L2 Evl
def topS (i : Nat) : Stmt := PySem.Challenge.pw_cycleready_k55_whole_order_of_main_progr.main.body.getD i (.Pass ⟨0, 0, 0, 0⟩)
abbrev sIsInteger : Stmt := topS 14
abbrev sIsName : Stmt := topS 15
abbrev sIsVariable : Stmt := topS 17
abbrev sIsItem : Stmt := topS 22
abbrev sIsStep : Stmt := topS 23
abbrev sIsPlain : Stmt := topS 24
theorem scIsInteger : FnScope ["value"] ["value"] (defScope sIsInteger) := ⟨rfl, rfl, rfl, by decide +kernel, rfl, by decide +kernel, by decide +kernel⟩
theorem scIsName : FnScope ["value", "letter"] ["value"] (defScope sIsName) := ⟨rfl, rfl, rfl, by decide +kernel, rfl, by decide +kernel, by decide +kernel⟩
theorem scIsVariable : FnScope ["value"] ["value"] (defScope sIsVariable) := ⟨rfl, rfl, rfl, by decide +kernel, rfl, by decide +kernel, by decide +kernel⟩
theorem scIsItem : FnScope ["value", "kind"] ["value", "kind"] (defScope sIsItem) := ⟨rfl, rfl, rfl, by decide +kernel, rfl, by decide +kernel, by decide +kernel⟩
theorem scIsStep : FnScope ["value", "shape", "item", "kind"] ["value"] (defScope sIsStep) := ⟨rfl, rfl, rfl, by decide +kernel, rfl, by decide +kernel, by decide +kernel⟩
theorem scIsPlain : FnScope ["step"] ["step"] (defScope sIsPlain) := ⟨rfl, rfl, rfl, by decide +kernel, rfl, by decide +kernel, by decide +kernel⟩
/-- the built-ins are the built-ins -/
structure Blt (mg : Str → Option Value) : Prop where
  isi : mg "isinstance" = none
  int : mg "int" = none
  bool : mg "bool" = none
  str : mg "str" = none
  tuple : mg "tuple" = none
  list : mg "list" = none
  len : mg "len" = none
  all : mg "all" = none
  zip : mg "zip" = none
  repr : mg "repr" = none
  range : mg "range" = none
  max : mg "max" = none
  min : mg "min" = none
  abs : mg "abs" = none
  divmod : mg "divmod" = none
  enum : mg "enumerate" = none
  sorted : mg "sorted" = none
  sup : mg "super" = none
  verr : mg "ValueError" = none
  rerr : mg "RuntimeError" = none
  dict : mg "dict" = none
  lerr : mg "LookupError" = none
  kerr : mg "KeyError" = none
  aerr : mg "ArithmeticError" = none
  set : mg "set" = none
  any : mg "any" = none
theorem bIsi : bootBuiltins "isinstance" = some (.builtin "isinstance") := by decide +kernel
theorem bLen : bootBuiltins "len" = some (.builtin "len") := by decide +kernel
theorem bAll : bootBuiltins "all" = some (.builtin "all") := by decide +kernel
theorem bRepr : bootBuiltins "repr" = some (.builtin "repr") := by decide +kernel
theorem bInt : bootBuiltins "int" = some (.type "int") := by decide +kernel
theorem bBool : bootBuiltins "bool" = some (.type "bool") := by decide +kernel
theorem bStr : bootBuiltins "str" = some (.type "str") := by decide +kernel
theorem bTuple : bootBuiltins "tuple" = some (.type "tuple") := by decide +kernel
theorem bDict : bootBuiltins "dict" = some (.type "dict") := by decide +kernel
theorem bList : bootBuiltins "list" = some (.type "list") := by decide +kernel
/-! ### what they say -/
def isInteger (d : PyData) : Bool := isT "int" d && !isT "bool" d
def atLeast (n : Int) : PyData → Bool
  | .int i => decide (n ≤ i)
  | _ => false
def isNameS (x : Str) : Bool := (decide ((1 : Int) ≤ x.length) && decide ((x.length : Int) ≤ 8)) && x.cps.toList.all isLow
def isName : PyData → Bool
  | .str x => isNameS x
  | _ => false
def vars4 : List Str := ["a", "b", "c", "d"]
def isVar : PyData → Bool
  | .str x => vars4.any fun y => y == x
  | _ => false
section
variable {P : Program} {w : World} {K : PySem.W.Frag} {mg : Str → Option Value} {base : Heap}
theorem memI : "int" ∈ ["int", "bool", "str", "list", "tuple", "dict"] := by decide
theorem memB : "bool" ∈ ["int", "bool", "str", "list", "tuple", "dict"] := by decide
theorem memS : "str" ∈ ["int", "bool", "str", "list", "tuple", "dict"] := by decide
theorem memT : "tuple" ∈ ["int", "bool", "str", "list", "tuple", "dict"] := by decide
theorem ok_isInteger {f : Addr} {fd : FuncData} {k : Nat} (F : Fun K "is_integer" "is_integer" sIsInteger f fd) (B : Blt mg) : FnOk P w K mg base CX0 (k + 1) f fd ["value"] (spD isInteger) := by
  refine F.ok scIsInteger spD_len (fun cdv A outer s H vs Q E hr h => ?_)
  obtain ⟨v, d, rfl, hd, _, q⟩ := h
  refine ⟨_, pss_one (ps_ret (pe_and (pe_callB call_isi (by rfl) B.isi bIsi (pa_cons (pv 0) (pa_cons (pe_bltn (v := .ty "int") (by rfl) B.int bInt rfl) pa_nil)))
    (pe_one (pe_not (pe_callB call_isi (by rfl) B.isi bIsi (pa_cons (pv 0) (pa_cons (pe_bltn (v := .ty "bool") (by rfl) B.bool bBool rfl) pa_nil))))))), ?_⟩
  refine s_ret (ev_andV (ev_cb (ea_cons (ev_var rfl) (ea_cons ev_c ea_nil)) (rc_isi hd memI)) fun _ => ev_notV (ev_cb (ea_cons (ev_var rfl) (ea_cons ev_c ea_nil)) (rc_isi hd memB))) q
theorem ok_isName {f : Addr} {fd : FuncData} {k : Nat} (F : Fun K "is_name" "is_name" sIsName f fd) (B : Blt mg) {tL : Tok} (gL : mg "LONGEST_NAME" = some (.int 8 tL)) : FnOk P w K mg base CX0 (k + 1) f fd ["value"] (spD isName) := by
  refine F.ok scIsName spD_len (fun cdv A outer s H vs Q E hr h => ?_)
  obtain ⟨v, d, rfl, hd, hs, q⟩ := h
  refine ⟨_, pss_cons (ps_if (PW.pt (pw_or (pt_not (pt_val (pe_callB call_isi (by rfl) B.isi bIsi (pa_cons (pv 0) (pa_cons (pe_bltn (v := .ty "str") (by rfl) B.str bStr rfl) pa_nil)))))
      (pw_or1 (pt_not (pt_chain op_le op_le pe_int (pe_callB call_len_str (by rfl) B.len bLen (pa_cons (pv 0) pa_nil)) (pe_glob (v := .int 8) (by rfl) gL ⟨_, rfl⟩))))))
      (pss_one (ps_ret pe_bl)) pss_nil)
    (pss_one (ps_ret (pe_callB (cr_all rfl) (by rfl) B.all bAll (pa_cons
      (pe_lc (own := [("letter", 1)]) (g := gName 1) (tt := tYes) rfl scIsName.nd (pi_str (pv 0)) (blkOk_by (own := [("letter", 1)]) (N := ["value", "letter"]) (sc := defScope sIsName) (by decide +kernel))
        (fun _ _ _ _ _ => pg_name (i := 1) scIsName.nd rfl (Or.inl rfl)) (fun _ _ _ _ _ => pts_nil) (fun _ _ _ _ _ => pe_chain op_leS op_leS pe_str (pv 1) pe_str)) pa_nil)))), ?_⟩
  have isS := rc_isi (K := K) hd memS
  cases hd with
  | str x =>
    have hx : x.length ≤ 1000 := by
      rw [sm] at hs
      exact of_decide_eq_true hs
    refine q_when (et_or (et_not (et_B (ev_cb (ea_cons (ev_var rfl) (ea_cons ev_c ea_nil)) isS))) fun _ => et_not (et_test (ev_chain ev_c (ev_cb (ea_cons (ev_var rfl) ea_nil) (rc_lenS hx)) rv_I0 (fun _ => ev_c) fun _ => rv_I0))) (fun hb H1 e1 => ?_) (fun hb H1 e1 => ?_)
    · refine s_ret ev_c fun H2 e2 => ?_
      have z : isName (.str x) = false := by
        have hb' : (!(isT "str" (.str x)) || !(decide ((1 : Int) ≤ x.length) && decide ((x.length : Int) ≤ 8))) = true := hb
        have e : isT "str" (.str x) = true := rfl
        rw [e, Bool.not_true, Bool.false_or] at hb'
        show ((decide ((1 : Int) ≤ x.length) && decide ((x.length : Int) ≤ 8)) && x.cps.toList.all isLow) = false
        rw [Bool.not_eq_true'] at hb'
        rw [hb', Bool.false_and]
      have g := q H2 (e1.trans e2)
      rw [z] at g
      exact g
    · have ch : ∀ c : Nat, (!decide ((⟨#[c]⟩ : Str).cps.toList < (("a" : Str)).cps.toList) && !decide ((("z" : Str)).cps.toList < (⟨#[c]⟩ : Str).cps.toList)) = isLow c := fun c => by
        have ea : (("a" : Str)).cps.toList = [97] := by decide +kernel
        have ez : (("z" : Str)).cps.toList = [122] := by decide +kernel
        have ec : (⟨#[c]⟩ : Str).cps.toList = [c] := rfl
        rw [ea, ez, ec, one_lt, one_lt]
        unfold isLow
        congr 1
        · by_cases hc : 97 ≤ c
          · rw [decide_eq_true hc, decide_eq_false (show ¬ c < 97 by omega)]; rfl
          · rw [decide_eq_false hc, decide_eq_true (show c < 97 by omega)]; rfl
        · by_cases hc : c ≤ 122
          · rw [decide_eq_true hc, decide_eq_false (show ¬ 122 < c by omega)]; rfl
          · rw [decide_eq_false hc, decide_eq_true (show 122 < c by omega)]; rfl
      have lc := el_lcW (wi := iStr (tVar 0)) (g := gName 1) (tt := tYes) (te := tChain rLeS rLeS (tC (.str "a")) (tVar 1) (tC (.str "z"))) (vs := [1]) (σ := start ["value", "letter"] [V.str x]) (H := H1) (fun _ => true) (fun i => .bl (isLow (x.cps.toList.getD i 0))) (Y := fun i H v H' => H' = H ∧ ∃ c, x.cps[i]? = some c ∧ v = .str ⟨#[c]⟩) (n := x.cps.size) (by have : x.cps.size = x.length := rfl; omega)
        (fun H2 e R r => ⟨.str x, rfl, x, rfl, r H2 _ _ walk_str (fun _ _ _ z => z) (Ex.refl H2) trivial⟩) (fun i y H2 H3 e hi hy => by
          obtain ⟨rfl, c, hc, rfl⟩ := hy
          refine ⟨Ex.refl _, [some (.str x), some (.str ⟨#[c]⟩)], rfl, fun R r => r, fun H4 _ Q q => q H4 (Ex.refl H4), fun _ => ?_⟩
          have ec : x.cps.toList.getD i 0 = c := by
            rw [List.getD, Array.getElem?_toList, hc]; rfl
          show Ev _ _ _ (.bl (isLow (x.cps.toList.getD i 0)))
          rw [ec, ← ch c]
          exact ev_chain ev_c (ev_var rfl) rv_leS (fun _ => ev_c) fun _ => rv_leS)
      have e1' : given x.cps.size (fun _ => true) (fun i => V.bl (isLow (x.cps.toList.getD i 0))) = ((List.range x.cps.size).map fun i => isLow (x.cps.toList.getD i 0)).map V.bl := by
        rw [given_all, List.map_map]; rfl
      rw [e1'] at lc
      refine s_ret (ev_all lc) fun H2 e2 => ?_
      have hb' : (!(isT "str" (.str x)) || !(decide ((1 : Int) ≤ x.length) && decide ((x.length : Int) ≤ 8))) = false := hb
      have e : isT "str" (.str x) = true := rfl
      rw [e, Bool.not_true, Bool.false_or, Bool.not_eq_false'] at hb'
      have z : isName (.str x) = ((List.range x.cps.size).map fun i => isLow (x.cps.toList.getD i 0)).all id := by
        show ((decide ((1 : Int) ≤ x.length) && decide ((x.length : Int) ≤ 8)) && x.cps.toList.all isLow) = _
        rw [hb', Bool.true_and, ← all_range x.cps.toList 0 isLow]
        rfl
      have g := q H2 (e1.trans e2)
      rw [z] at g
      exact g
  | _ =>
    refine q_when (b := true) (et_is (et_or (et_not (et_B (ev_cb (ea_cons (ev_var rfl) (ea_cons ev_c ea_nil)) isS))) (b := false) fun z => absurd z (by first | decide | simp [isT, isTs, tyT])) (by first | decide | simp [isT, isTs, tyT])) (fun _ H1 e1 => s_ret ev_c fun H2 e2 => q H2 (e1.trans e2)) (fun z => absurd z (by decide))
end
end Cr
namespace Cr
open PySem PySem.Spec PyProof.Rows L2 Evl
/-- a tuple of the module's top -/
def KTup (K : PySem.W.Frag) (a : Addr) (xs : List V) : Prop := ∃ (o : Obj) (its : Array Value) (n : Nat), K.lookup a = some o ∧ o.cls = .type "tuple" ∧ o.data = .seq its n ∧ its.size ≤ sizeLine ∧ Vals xs its.toList
theorem KTup.sq {K : PySem.W.Frag} {H : Hp} {a : Addr} {xs : List V} (h : KTup K a xs) : SqT K H a xs := .inr h
/-! ### the mirror -/
def isItem (d : PyData) (k : Str) : Bool :=
  if k = "variable" then isVar d
  else if k = "integer" then isInteger d
  else if k = "length" then isInteger d && atLeast 1 d
  else isName d
def shapeOf (z : Str) : Option (List Str) :=
  if z = "set" then some ["variable", "integer"] else if z = "add" then some ["variable", "variable"] else if z = "skip" then some ["variable", "length"]
  else if z = "export" then some ["name", "variable"] else if z = "read" then some ["variable", "module", "name"] else if z = "need" then some ["module"]
  else if z = "try" then some ["module", "variable"] else if z = "fail" then some [] else none
def stepItems (ds : List PyData) (ks : List Str) : Bool := ((List.range ks.length).map fun i => isItem (ds.getD i .none) (ks.getD i "")).all id
def isStep : PyData → Bool
  | .tuple (.str z :: ds) => (match shapeOf z with
    | some ks => decide (ds.length = ks.length) && stepItems ds ks
    | none => false)
  | _ => false
def plain3 : List Str := ["set", "add", "skip"]
def isPlain (d : PyData) : Bool := isStep d && (match d with
  | .tuple (.str z :: _) => plain3.any fun y => y == z
  | _ => false)
/-- the table of shapes, as the top left it -/
structure Shapes (K : PySem.W.Frag) (w : World) (dS : Addr) (es : Array DictEntry) (n : Nat) : Prop where
  kd : KDict K w dS es n
  no : ∀ z, shapeOf z = none → PySem.W.nsIn K dS z = some none
  yes : ∀ z ks, shapeOf z = some ks → ∃ a, PySem.W.nsIn K dS z = some (some (.ref a)) ∧ KTup K a (ks.map V.str)
theorem inV_strs (z : Str) (l : List Str) : inV (.str z) (l.map V.str) = l.any fun y => y == z := by
  unfold inV
  rw [List.any_map]
  rfl
theorem flat_strs (l : List Str) : (l.map V.str).all flatV = true := by
  rw [List.all_map]
  exact List.all_eq_true.mpr fun _ _ => rfl
/-- is_item's promise -/
def spItem : Sp := fun vs H Q _ => ∃ v d k, vs = [v, .str k] ∧ Dt H v d ∧ sm d = true ∧ ∀ H', Ex H H' → Q (.bl (isItem d k)) H'
section
variable {P : Program} {w : World} {K : PySem.W.Frag} {mg : Str → Option Value} {base : Heap}
theorem ok_isVar {f aV : Addr} {fd : FuncData} {k : Nat} (F : Fun K "is_variable" "is_variable" sIsVariable f fd) (B : Blt mg) (gV : mg "VARIABLES" = some (.ref aV)) (tV : KTup K aV (vars4.map V.str)) : FnOk P w K mg base CX0 (k + 1) f fd ["value"] (spD isVar) := by
  refine F.ok scIsVariable spD_len (fun cdv A outer s H vs Q E hr h => ?_)
  obtain ⟨v, d, rfl, hd, _, q⟩ := h
  refine ⟨_, pss_one (ps_ret (pe_and (pe_callB call_isi (by rfl) B.isi bIsi (pa_cons (pv 0) (pa_cons (pe_bltn (v := .ty "str") (by rfl) B.str bStr rfl) pa_nil)))
    (pe_one (pe_cmpR op_in_seq (pv 0) (pe_glob (v := .ref aV) (by rfl) gV rfl) (by rfl))))), ?_⟩
  have isS := rc_isi (K := K) hd memS
  cases hd with
  | str x =>
    refine s_ret (v := .bl (isVar (.str x))) (ev_is (ev_andV (b := inV (.str x) (vars4.map V.str)) (ev_cb (ea_cons (ev_var rfl) (ea_cons ev_c ea_nil)) isS) fun _ => ev_op (ev_var rfl) ev_c (rv_isT tV.sq rfl (flat_strs _))) ?_) q
    rw [inV_strs]
    rfl
  | _ => exact s_ret (ev_andV (b := false) (ev_cb (ea_cons (ev_var rfl) (ea_cons ev_c ea_nil)) isS) fun z => absurd z (by first | decide | simp [isT, isTs, tyT])) (by first | exact q | simpa [isT, isTs, tyT, isVar] using q)
theorem ok_isItem {f fI fV fN : Addr} {fd fdI fdV fdN : FuncData} {k : Nat} (F : Fun K "is_item" "is_item" sIsItem f fd)
    (GI : FnOk P w K mg base CX0 k fI fdI ["value"] (spD isInteger)) (bI : Binds K fdI ["value"] []) (kI : PySem.W.keepIn K (.ref fI) = true) (gI : mg "is_integer" = some (.ref fI))
    (GV : FnOk P w K mg base CX0 k fV fdV ["value"] (spD isVar)) (bV : Binds K fdV ["value"] []) (kV : PySem.W.keepIn K (.ref fV) = true) (gV : mg "is_variable" = some (.ref fV))
    (GN : FnOk P w K mg base CX0 k fN fdN ["value"] (spD isName)) (bN : Binds K fdN ["value"] []) (kN : PySem.W.keepIn K (.ref fN) = true) (gN : mg "is_name" = some (.ref fN)) :
    FnOk P w K mg base CX0 (k + 1) f fd ["value", "kind"] spItem := by
  refine F.ok scIsItem (fun vs H Q E h => by obtain ⟨_, _, _, rfl, _⟩ := h; rfl) (fun cdv A outer s H vs Q E hr h => ?_)
  obtain ⟨v, d, kd, rfl, hd, hs, q⟩ := h
  refine ⟨_, pss_cons (ps_if (pt_cmpR op_eq (pv 1) pe_str (nomark _)) (pss_one (ps_ret (pe_call GV hr (by rfl) gV kV bV .nil pass0 (pa_cons (pv 0) pa_nil)))) pss_nil)
    (pss_cons (ps_if (pt_cmpR op_eq (pv 1) pe_str (nomark _)) (pss_one (ps_ret (pe_call GI hr (by rfl) gI kI bI .nil pass0 (pa_cons (pv 0) pa_nil)))) pss_nil)
    (pss_cons (ps_if (pt_cmpR op_eq (pv 1) pe_str (nomark _)) (pss_one (ps_ret (pe_and (pe_call GI hr (by rfl) gI kI bI .nil pass0 (pa_cons (pv 0) pa_nil)) (pe_one (pe_cmpR op_ge (pv 0) pe_int (nomark _)))))) pss_nil)
    (pss_one (ps_ret (pe_call GN hr (by rfl) gN kN bN .nil pass0 (pa_cons (pv 0) pa_nil)))))), ?_⟩
  have ne : ∀ {z : Str}, decide (V.str kd = V.str z) = false → ¬ kd = z := fun h e => of_decide_eq_false h (by rw [e])
  have ye : ∀ {z : Str}, decide (V.str kd = V.str z) = true → kd = z := fun h => V.str.inj (of_decide_eq_true h)
  refine q_when (et_test (ev_op (ev_var rfl) ev_c (rv_eq rfl))) (fun hb H1 e1 => ?_) (fun hb H1 e1 => ?_)
  · refine s_ret (ev_call (ea_cons (ev_var rfl) ea_nil) (spv_D (Dt.ex e1 hd) hs)) fun H2 e2 => ?_
    have g := q H2 (e1.trans e2)
    unfold isItem at g
    rw [if_pos (ye hb)] at g
    exact g
  refine q_when (et_test (ev_op (ev_var rfl) ev_c (rv_eq rfl))) (fun hb2 H2 e2 => ?_) (fun hb2 H2 e2 => ?_)
  · refine s_ret (ev_call (ea_cons (ev_var rfl) ea_nil) (spv_D (Dt.ex (e1.trans e2) hd) hs)) fun H3 e3 => ?_
    have g := q H3 ((e1.trans e2).trans e3)
    unfold isItem at g
    rw [if_neg (ne hb), if_pos (ye hb2)] at g
    exact g
  refine q_when (et_test (ev_op (ev_var rfl) ev_c (rv_eq rfl))) (fun hb3 H3 e3 => ?_) (fun hb3 H3 e3 => ?_)
  · have hd3 := Dt.ex ((e1.trans e2).trans e3) hd
    refine s_ret (v := .bl (isInteger d && atLeast 1 d)) (ev_andV (ev_call (ea_cons (ev_var rfl) ea_nil) (spv_D hd3 hs)) fun hi => ?_) fun H4 e4 => ?_
    · cases hd3 with
      | int i => exact ev_op (ev_var rfl) ev_c rv_I0
      | _ => exact absurd hi (by first | decide | (revert hi; simp [isInteger, isT, isTs, tyT]))
    · have g := q H4 (((e1.trans e2).trans e3).trans e4)
      unfold isItem at g
      rw [if_neg (ne hb), if_neg (ne hb2), if_pos (ye hb3)] at g
      exact g
  · refine s_ret (ev_call (ea_cons (ev_var rfl) ea_nil) (spv_D (Dt.ex ((e1.trans e2).trans e3) hd) hs)) fun H4 e4 => ?_
    have g := q H4 (((e1.trans e2).trans e3).trans e4)
    unfold isItem at g
    rw [if_neg (ne hb), if_neg (ne hb2), if_neg (ne hb3)] at g
    exact g
end
end Cr
namespace Cr
open PySem PySem.Spec PyProof.Rows L2 Evl
section
variable {K : PySem.W.Frag} {H : Hp}
def rNotKd (K : PySem.W.Frag) (d : Addr) : R2 := fun x y H Q => ∃ (z : Str) (r : Option Value), x = .str z ∧ y = .ref d ∧ PySem.W.nsIn K d z = some r ∧ Q (.bl (!r.isSome)) H
theorem op_notKd {X : Cx} {d : Addr} {es : Array DictEntry} {n : Nat} (D : KDict X.K X.w d es n) : OpR X (compareOp .NotIn) (rNotKd X.K d) := op_notIn_kd D
theorem dt_tup {a : Addr} {ds : List PyData} (h : Dt H (.ref a) (.tuple ds)) : ∃ xs, H a = some (.tup xs) ∧ DtAll H xs ds := by
  cases h with
  | tup h t => exact ⟨_, h, t⟩
/-- a pair is taken apart -/
theorem pair_go {K : PySem.W.Frag} {σ : L2.St} {H : Hp} {T : Addr} {x y : V} {i j : Nat} {R : L2.St → Hp → Prop} (h : H T = some (.tup [x, y])) (r : R ((σ.set i (some x)).set j (some y)) H) :
    gTup K 2 (gCons (gName i) (gCons (gName j) gNil)) (.ref T) σ H R := ⟨T, [x, y], rfl, .inl (.inl h), rfl, x, [y], rfl, y, [], rfl, rfl, r⟩
end
section
variable {P : Program} {w : World} {K : PySem.W.Frag} {mg : Str → Option Value} {base : Heap}
theorem ok_isStep {f fT dS : Addr} {fd fdT : FuncData} {k n : Nat} {es : Array DictEntry} (F : Fun K "is_step" "is_step" sIsStep f fd) (B : Blt mg) (gS : mg "SHAPES" = some (.ref dS)) (S : Shapes K w dS es n)
    (GT : FnOk P w K mg base CX0 k fT fdT ["value", "kind"] spItem) (bT : Binds K fdT ["value", "kind"] []) (kT : PySem.W.keepIn K (.ref fT) = true) (gT : mg "is_item" = some (.ref fT)) :
    FnOk P w K mg base CX0 (k + 1) f fd ["value"] (spD isStep) := by
  refine F.ok scIsStep spD_len (fun cdv A outer s H vs Q E hr h => ?_)
  obtain ⟨v, d, rfl, hd, hs, q⟩ := h
  refine ⟨_, pss_cons (ps_if (PW.pt (pw_or (pt_not (pt_val (pe_callB call_isi (by rfl) B.isi bIsi (pa_cons (pv 0) (pa_cons (pe_bltn (v := .ty "tuple") (by rfl) B.tuple bTuple rfl) pa_nil)))))
      (pw_or1 (pt_cmpR op_eq (pe_callB call_len_seq (by rfl) B.len bLen (pa_cons (pv 0) pa_nil)) pe_int (nomark _))))) (pss_one (ps_ret pe_bl)) pss_nil)
    (pss_cons (ps_if (PW.pt (pw_or (pt_not (pt_val (pe_callB call_isi (by rfl) B.isi bIsi (pa_cons (pe_ix ix_tup (pv 0) pe_int (fun _ _ => rfl)) (pa_cons (pe_bltn (v := .ty "str") (by rfl) B.str bStr rfl) pa_nil)))))
      (pw_or1 (pt_cmpR (op_notKd S.kd) (pe_ix ix_tup (pv 0) pe_int (fun _ _ => rfl)) (pe_glob (v := .ref dS) (by rfl) gS rfl) (by rfl))))) (pss_one (ps_ret pe_bl)) pss_nil)
    (pss_cons (ps_set (i := 1) scIsStep.nd rfl (.inl rfl) (pe_ix ix_kdict (pe_glob (v := .ref dS) (by rfl) gS rfl) (pe_ix ix_tup (pv 0) pe_int (fun _ _ => rfl)) (fun _ _ => rfl)))
    (pss_cons (ps_if (pt_cmpR op_ne (pe_callB call_len_seq (by rfl) B.len bLen (pa_cons (pv 0) pa_nil)) (pe_op op_add (pe_callB call_len_seq (by rfl) B.len bLen (pa_cons (pv 1) pa_nil)) pe_int) (nomark _)) (pss_one (ps_ret pe_bl)) pss_nil)
    (pss_one (ps_ret (pe_callB (cr_all rfl) (by rfl) B.all bAll (pa_cons
      (pe_lc (own := [("item", 2), ("kind", 3)]) (g := gTup K 2 (gCons (gName 2) (gCons (gName 3) gNil))) (tt := tYes) rfl scIsStep.nd (RZ.pi_zipA (by rfl) B.zip (pa_cons (pe_slice sl_tup (pv 0) (po_some pe_int) po_none) (pa_cons (pv 1) pa_nil))) (blkOk_by (own := [("item", 2), ("kind", 3)]) (N := ["value", "shape", "item", "kind"]) (sc := defScope sIsStep) (by decide +kernel))
        (fun _ _ _ _ _ => by exact pg_tup rfl (pgs_cons (pg_name (i := 2) scIsStep.nd rfl (Or.inl rfl)) (pgs_cons (pg_name (i := 3) scIsStep.nd rfl (Or.inl rfl)) pgs_nil))) (fun _ _ _ _ _ => pts_nil)
        (fun _ _ _ _ _ => pe_call GT hr (by rfl) gT kT bT .nil pass0 (pa_cons (pv 2) (pa_cons (pv 3) pa_nil)))) pa_nil))))))), ?_⟩
  have isS := rc_isi (K := K) hd memT
  by_cases ht : ∃ ds, d = .tuple ds
  · obtain ⟨ds, rfl⟩ := ht
    have ha : ∃ a, v = .ref a := by cases hd; exact ⟨_, rfl⟩
    obtain ⟨a, rfl⟩ := ha
    obtain ⟨xs, hx, hds⟩ := dt_tup hd
    have len := hds.length
    refine q_when (et_or (et_not (et_B (ev_cb (ea_cons (ev_var rfl) (ea_cons ev_c ea_nil)) isS))) fun _ => et_test (ev_op (ev_cb (ea_cons (ev_var rfl) ea_nil) (rc_lenT (st_of hx))) ev_c (rv_eq rfl))) (fun hb H1 e1 => ?_) (fun hb H1 e1 => ?_)
    · refine s_ret ev_c fun H2 e2 => ?_
      have hb' : (!(isT "tuple" (.tuple ds)) || decide (V.int (xs.length : Int) = V.int 0)) = true := hb
      have e : isT "tuple" (.tuple ds) = true := rfl
      rw [e, Bool.not_true, Bool.false_or] at hb'
      have z := V.int.inj (of_decide_eq_true hb')
      have g := q H2 (e1.trans e2)
      cases ds with
      | nil => exact g
      | cons y r => rw [len, List.length_cons] at z; omega
    have hb' : (!(isT "tuple" (.tuple ds)) || decide (V.int (xs.length : Int) = V.int 0)) = false := hb
    have e : isT "tuple" (.tuple ds) = true := rfl
    rw [e, Bool.not_true, Bool.false_or] at hb'
    have nz := of_decide_eq_false hb'
    cases hds with
    | nil => exact absurd rfl nz
    | @cons v0 xs' d0 ds' h0 hr' =>
    have ix0 : ∀ {H' : Hp}, Ex H H' → ∀ {σ : L2.St}, σ[0]? = some (some (.ref a)) → Ev (tOp (rIxT K) (tVar 0) (tC (.int 0))) σ H' v0 := fun e0 σ hσ => ev_op (ev_var hσ) ev_c (rv_ixT (st_of (e0 _ _ hx)) (atI_nat (j := 0) rfl))
    have h01 := Dt.ex e1 h0
    have isS0 := rc_isi (K := K) h01 memS
    by_cases hstr : ∃ z, d0 = .str z
    · obtain ⟨z, rfl⟩ := hstr
      cases h0
      cases hsh : shapeOf z with
      | none =>
        refine q_when (b := true) (et_is (et_or (et_not (et_B (ev_cb (ea_cons (ix0 e1 rfl) (ea_cons ev_c ea_nil)) isS0))) (b := true) fun _ => et_test (ev_op (ix0 e1 rfl) ev_c (rv_val fun H2 _ Q q => ⟨z, none, rfl, rfl, S.no z hsh, q⟩))) (Bool.or_true _)) (fun _ H2 e2 => s_ret ev_c fun H3 e3 => ?_) (fun z => absurd z (by decide))
        have g := q H3 ((e1.trans e2).trans e3)
        have zz : isStep (.tuple (.str z :: ds')) = false := by
          show (match shapeOf z with | some ks => _ | none => false) = false
          rw [hsh]
        rw [zz] at g
        exact g
      | some ks =>
        obtain ⟨aS, n1, tS⟩ := S.yes z ks hsh
        refine q_when (b := false) (et_is (et_or (et_not (et_B (ev_cb (ea_cons (ix0 e1 rfl) (ea_cons ev_c ea_nil)) isS0))) (b := false) fun _ => et_test (ev_op (ix0 e1 rfl) ev_c (rv_val fun H2 _ Q q => ⟨z, some (.ref aS), rfl, rfl, n1, q⟩))) rfl) (fun z => absurd z (by decide)) (fun _ H2 e2 => ?_)
        have e12 := e1.trans e2
        refine q_asg (v := .ref aS) (ev_op ev_c (ix0 e12 rfl) (rv_val fun H3 _ Q q => ⟨dS, z, .ref aS, rfl, rfl, ⟨es, n, .ref aS, S.kd.at_, S.kd.lit, n1, rfl⟩, q⟩)) fun H3 e3 => ?_
        have e13 := e12.trans e3
        have lk : (ks.map V.str).length = ks.length := List.length_map ..
        have zz : isStep (.tuple (.str z :: ds')) = (decide (ds'.length = ks.length) && stepItems ds' ks) := by
          show (match shapeOf z with | some ks => (decide (ds'.length = ks.length) && stepItems ds' ks) | none => false) = _
          rw [hsh]
        have lx := hr'.length
        refine q_when (b := !decide (ds'.length = ks.length)) (et_is (et_test (ev_op (ev_cb (ea_cons (ev_var rfl) ea_nil) (rc_lenT (st_of (e13 _ _ hx)))) (ev_op (ev_cb (ea_cons (ev_var rfl) ea_nil) (rc_lenT tS.sq)) ev_c rv_I0) (rv_ne rfl))) ?_) (fun hb2 H4 e4 => s_ret ev_c fun H5 e5 => ?_) (fun hb2 H4 e4 => ?_)
        · show (!decide (V.int (((V.str z :: xs').length : Nat) : Int) = V.int (((ks.map V.str).length : Nat) + 1 : Int))) = _
          congr 1
          rw [lk, List.length_cons]
          by_cases hh : ds'.length = ks.length
          · rw [decide_eq_true hh, decide_eq_true]
            rw [lx, hh]; rfl
          · rw [decide_eq_false hh, decide_eq_false]
            intro hz
            have := V.int.inj hz
            omega
        · have g := q H5 ((e13.trans e4).trans e5)
          rw [zz] at g
          rw [Bool.not_eq_true'] at hb2
          rw [hb2, Bool.false_and] at g
          exact g
        · rw [Bool.not_eq_false'] at hb2
          have hh := of_decide_eq_true hb2
          have e14 := e13.trans e4
          have hn : ks.length ≤ 1000 := by
            rw [sm, Bool.and_eq_true] at hs
            have := of_decide_eq_true hs.1
            rw [List.length_cons] at this
            omega
          have hsd : smAll ds' = true := by
            rw [sm, Bool.and_eq_true, smAll, Bool.and_eq_true] at hs
            exact hs.2.2
          have lc := el_lcW (wi := RZ.iZipA K (tCons (tSl (rSlT K) (tVar 0) (tPart (tC (.int 1))) tNoPart) (tCons (tVar 1) tNil))) (g := gTup K 2 (gCons (gName 2) (gCons (gName 3) gNil))) (tt := tYes) (te := tCall spItem [] E0 (tCons (tVar 2) (tCons (tVar 3) tNil))) (vs := [2, 3])
            (σ := [some (.ref a), some (.ref aS), none, none]) (H := H4) (n := ks.length) (Y := YPair (fun i => xs'[i]?) fun i => (ks.map V.str)[i]?) (fun _ => true) (fun i => .bl (isItem (ds'.getD i .none) (ks.getD i ""))) (by omega)
            (fun H5 e5 R r => by
              refine eu_tail (ev_var rfl) (st_of ((e14.trans e5) _ _ hx)) H5 (Ex.refl H5) _ fun p H6 hp e6 h6 => ?_
              refine ⟨.ref aS, rfl, p, aS, xs', ks.map V.str, rfl, .inr ⟨st_of h6, tS.sq, r H6 _ _ (walk_zipT (xs := xs') (ys := ks.map V.str) (by rw [lk]; omega)) (fun H7 H8 e7 z => ⟨ex_t e7 z.1, ex_t e7 z.2⟩) e6 ⟨st_of h6, tS.sq⟩⟩⟩)
            (fun i y H5 H6 e5 hi hy => by
              obtain ⟨T, x1, y1, rfl, hT, rfl, hx1, hy1⟩ := hy
              obtain ⟨d1, hd1, dd1⟩ := hr'.get hx1
              have hk1 : ks[i]? = some (ks.getD i "") := by
                rw [List.getElem?_eq_getElem hi]
                simp [List.getD, List.getElem?_eq_getElem hi]
              have ey : y1 = V.str (ks.getD i "") := by
                have hy2 : (ks.map V.str)[i]? = some y1 := hy1
                rw [List.getElem?_map, hk1] at hy2
                exact (Option.some.inj hy2).symm
              have ed : ds'.getD i .none = d1 := by rw [List.getD, hd1]; rfl
              subst ey
              refine ⟨Ex.new hT, [some (.ref a), some (.ref aS), some x1, some (.str (ks.getD i ""))], rfl, fun R r => pair_go upd_same r, fun H7 _ Q q => q H7 (Ex.refl H7), fun _ => ?_⟩
              rw [ed]
              refine ev_call (ea_cons (ev_var rfl) (ea_cons (ev_var rfl) ea_nil)) fun H7 e7 Q q E => ⟨x1, d1, ks.getD i "", rfl, Dt.ex (((e14.trans e5).trans (Ex.new hT)).trans e7) dd1, smAll_get hsd hd1, q⟩)
          have eg : given ks.length (fun _ => true) (fun i => V.bl (isItem (ds'.getD i .none) (ks.getD i ""))) = ((List.range ks.length).map fun i => isItem (ds'.getD i .none) (ks.getD i "")).map V.bl := by
            rw [given_all, List.map_map]; rfl
          rw [eg] at lc
          refine s_ret (ev_all lc) fun H5 e5 => ?_
          have g := q H5 (e14.trans e5)
          rw [zz, decide_eq_true hh, Bool.true_and] at g
          exact g
    · have ns : isT "str" d0 = false := by
        cases d0 with
        | str z => exact absurd ⟨z, rfl⟩ hstr
        | _ => rfl
      refine q_when (b := true) (et_is (et_or (et_not (et_B (ev_cb (ea_cons (ix0 e1 rfl) (ea_cons ev_c ea_nil)) isS0))) (b := true) fun z => absurd z (by rw [ns]; decide)) (Bool.or_true _)) (fun _ H2 e2 => s_ret ev_c fun H3 e3 => ?_) (fun z => absurd z (by decide))
      have g := q H3 ((e1.trans e2).trans e3)
      cases d0 with
      | str z => exact absurd ⟨z, rfl⟩ hstr
      | _ => exact g
  · have nt : isT "tuple" d = false := by
      cases d with
      | tuple ds => exact absurd ⟨ds, rfl⟩ ht
      | _ => rfl
    refine q_when (b := true) (et_is (et_or (et_not (et_B (ev_cb (ea_cons (ev_var rfl) (ea_cons ev_c ea_nil)) isS))) (b := true) fun z => absurd z (by rw [nt]; decide)) (Bool.or_true _)) (fun _ H1 e1 => s_ret ev_c fun H2 e2 => ?_) (fun z => absurd z (by decide))
    have g := q H2 (e1.trans e2)
    cases d with
    | tuple ds => exact absurd ⟨ds, rfl⟩ ht
    | _ => exact g
theorem ok_isPlain {f fS aP : Addr} {fd fdS : FuncData} {k : Nat} (F : Fun K "is_plain" "is_plain" sIsPlain f fd) (gP : mg "PLAIN_STEPS" = some (.ref aP)) (tP : KTup K aP (plain3.map V.str))
    (GS : FnOk P w K mg base CX0 k fS fdS ["value"] (spD isStep)) (bS : Binds K fdS ["value"] []) (kS : PySem.W.keepIn K (.ref fS) = true) (gS : mg "is_step" = some (.ref fS)) :
    FnOk P w K mg base CX0 (k + 1) f fd ["step"] (spD isPlain) := by
  refine F.ok scIsPlain spD_len (fun cdv A outer s H vs Q E hr h => ?_)
  obtain ⟨v, d, rfl, hd, hs, q⟩ := h
  refine ⟨_, pss_one (ps_ret (pe_and (pe_call GS hr (by rfl) gS kS bS .nil pass0 (pa_cons (pv 0) pa_nil)) (pe_one (pe_cmpR op_in_seq (pe_ix ix_tup (pv 0) pe_int (fun _ _ => rfl)) (pe_glob (v := .ref aP) (by rfl) gP rfl) (by rfl))))), ?_⟩
  by_cases ht : ∃ z ds, d = .tuple (.str z :: ds)
  · obtain ⟨z, ds, rfl⟩ := ht
    have ha : ∃ a, v = .ref a := by cases hd; exact ⟨_, rfl⟩
    obtain ⟨a, rfl⟩ := ha
    obtain ⟨xs, hx, hds⟩ := dt_tup hd
    cases hds with
    | cons h0 hr' =>
      cases h0
      refine s_ret (v := .bl (isPlain (.tuple (.str z :: ds)))) (ev_is (ev_andV (b := inV (.str z) (plain3.map V.str)) (ev_call (ea_cons (ev_var rfl) ea_nil) (spv_D hd hs)) fun _ => ev_op (ev_op (ev_var rfl) ev_c (rv_ixT (st_of hx) (atI_nat (j := 0) rfl))) ev_c (rv_isT tP.sq rfl (flat_strs _))) ?_) q
      rw [inV_strs]
      rfl
  · have no : isStep d = false := by
      cases d with
      | tuple ds =>
        cases ds with
        | nil => rfl
        | cons d0 ds =>
          cases d0 with
          | str z => exact absurd ⟨z, ds, rfl⟩ ht
          | _ => rfl
      | _ => rfl
    refine s_ret (ev_andV (b := false) (ev_call (ea_cons (ev_var rfl) ea_nil) (spv_D hd hs)) fun z => absurd z (by rw [no]; decide)) fun H1 e1 => ?_
    have g := q H1 e1
    unfold isPlain at g
    rw [no, Bool.false_and] at g ⊢
    exact g
end
end Cr
namespace Cr
open PySem PySem.Spec PyProof.Rows L2 Evl
theorem int_text {i : Int} (h : i.natAbs.log2 < 1000) : (Str.ofString (toString i)).length ≤ 1001 := by
  have e := int_text_length_le (k := 1000) (by decide) h
  rw [PySem.ofString_length]
  omega
theorem len_add (a b : Str) : (a ++ b).length = a.length + b.length := by
  show (a.cps ++ b.cps).size = _
  rw [Array.size_append]
  rfl
/-! ### flat values -/
def flD : V → PyData
  | .bl b => .bool b
  | .int i => .int i
  | .str x => .str x
  | _ => .none
theorem dt_flat {H : Hp} {v : V} (h : flatV v = true) : Dt H v (flD v) := by
  cases v with
  | non => exact .non
  | bl b => exact .bl b
  | int i => exact .int i
  | str x => exact .str x
  | _ => exact absurd h (fun z => nomatch z)
theorem dtAll_flat {H : Hp} : ∀ {xs : List V}, xs.all flatV = true → DtAll H xs (xs.map flD)
  | [], _ => .nil
  | x :: r, h => by
    rw [List.all_cons, Bool.and_eq_true] at h
    exact .cons (dt_flat h.1) (dtAll_flat h.2)
def leafOk : V → Bool
  | .non => true
  | .bl _ => true
  | .int i => decide (i.natAbs ≤ 10 ^ 30)
  | .str x => decide (x.length ≤ 9) && x.cps.toList.all fun c => decide (c < 128)
  | _ => false
theorem leaf_name {x : Str} (h : isNameS x = true) : leafOk (.str x) = true := by
  unfold isNameS at h
  simp only [Bool.and_eq_true, decide_eq_true_eq] at h
  show (decide (x.length ≤ 9) && x.cps.toList.all fun c => decide (c < 128)) = true
  rw [decide_eq_true (show x.length ≤ 9 by omega), Bool.true_and]
  refine List.all_eq_true.mpr fun c hc => ?_
  have z := List.all_eq_true.mp h.2 c hc
  unfold isLow at z
  simp only [Bool.and_eq_true, decide_eq_true_eq] at z
  exact decide_eq_true (by omega)
theorem var_cases {x : Str} (h : isVar (.str x) = true) : x = "a" ∨ x = "b" ∨ x = "c" ∨ x = "d" := by
  have z : (vars4.any fun y => y == x) = true := h
  simp only [vars4, List.any_cons, List.any_nil, Bool.or_false, Bool.or_eq_true, beq_iff_eq] at z
  rcases z with z | z | z | z
  · exact .inl z.symm
  · exact .inr (.inl z.symm)
  · exact .inr (.inr (.inl z.symm))
  · exact .inr (.inr (.inr z.symm))
theorem leaf_var {x : Str} (h : isVar (.str x) = true) : leafOk (.str x) = true := by
  rcases var_cases h with rfl | rfl | rfl | rfl <;> decide +kernel
/-! ### the steps -/
theorem isStep_eq {z : Str} {ks : List Str} {ds : List PyData} (h : shapeOf z = some ks) : isStep (.tuple (.str z :: ds)) = (decide (ds.length = ks.length) && stepItems ds ks) := by
  show (match shapeOf z with | some ks => (decide (ds.length = ks.length) && stepItems ds ks) | none => false) = _
  rw [h]
theorem it_var (d : PyData) : isItem d "variable" = isVar d := if_pos rfl
theorem it_int (d : PyData) : isItem d "integer" = isInteger d := by
  unfold isItem
  rw [if_neg (by decide +kernel), if_pos rfl]
theorem it_len (d : PyData) : isItem d "length" = (isInteger d && atLeast 1 d) := by
  unfold isItem
  rw [if_neg (by decide +kernel), if_neg (by decide +kernel), if_pos rfl]
theorem it_name (d : PyData) : isItem d "name" = isName d := by
  unfold isItem
  rw [if_neg (by decide +kernel), if_neg (by decide +kernel), if_neg (by decide +kernel)]
theorem it_mod (d : PyData) : isItem d "module" = isName d := by
  unfold isItem
  rw [if_neg (by decide +kernel), if_neg (by decide +kernel), if_neg (by decide +kernel)]
theorem items1 (d : PyData) (k : Str) : stepItems [d] [k] = isItem d k := by
  show (isItem d k && true) = _
  rw [Bool.and_true]
theorem items2 (d d' : PyData) (k k' : Str) : stepItems [d, d'] [k, k'] = (isItem d k && isItem d' k') := by
  show (isItem d k && (isItem d' k' && true)) = _
  rw [Bool.and_true]
theorem items3 (d d' d'' : PyData) (k k' k'' : Str) : stepItems [d, d', d''] [k, k', k''] = (isItem d k && (isItem d' k' && isItem d'' k'')) := by
  show (isItem d k && (isItem d' k' && (isItem d'' k'' && true))) = _
  rw [Bool.and_true]
theorem sh_set : shapeOf "set" = some (["variable", "integer"] : List Str) := by decide +kernel
theorem sh_add : shapeOf "add" = some (["variable", "variable"] : List Str) := by decide +kernel
theorem sh_skip : shapeOf "skip" = some (["variable", "length"] : List Str) := by decide +kernel
theorem sh_export : shapeOf "export" = some (["name", "variable"] : List Str) := by decide +kernel
theorem sh_read : shapeOf "read" = some (["variable", "module", "name"] : List Str) := by decide +kernel
theorem sh_need : shapeOf "need" = some (["module"] : List Str) := by decide +kernel
theorem sh_try : shapeOf "try" = some (["module", "variable"] : List Str) := by decide +kernel
theorem sh_fail : shapeOf "fail" = some ([] : List Str) := by decide +kernel
structure StepOk (xs : List V) : Prop where
  leaf : xs.all leafOk = true
  one : 1 ≤ xs.length
  four : xs.length ≤ 4
  step : isStep (.tuple (xs.map flD)) = true
theorem kinds_leaf : ∀ z ∈ (["set", "add", "skip", "export", "read", "need", "try", "fail"] : List Str), leafOk (.str z) = true := by decide +kernel
theorem st_set {x : Str} {n : Int} (hx : isVar (.str x) = true) (hn : n.natAbs ≤ 10 ^ 30) : StepOk [.str "set", .str x, .int n] where
  leaf := by
    rw [List.all_cons, List.all_cons, List.all_cons, kinds_leaf "set" (by decide +kernel), leaf_var hx]
    show (true && (true && (decide (n.natAbs ≤ 10 ^ 30) && true))) = true
    rw [decide_eq_true hn]
    rfl
  one := by show 1 ≤ 3; decide
  four := by show 3 ≤ 4; decide
  step := by
    rw [show ([V.str "set", V.str x, V.int n].map flD) = [.str "set", .str x, .int n] from rfl, isStep_eq sh_set, items2, it_var, it_int, hx]
    rfl
theorem st_add {x y : Str} (hx : isVar (.str x) = true) (hy : isVar (.str y) = true) : StepOk [.str "add", .str x, .str y] where
  leaf := by
    rw [List.all_cons, List.all_cons, List.all_cons, kinds_leaf "add" (by decide +kernel), leaf_var hx, leaf_var hy]
    rfl
  one := by show 1 ≤ 3; decide
  four := by show 3 ≤ 4; decide
  step := by
    rw [show ([V.str "add", V.str x, V.str y].map flD) = [.str "add", .str x, .str y] from rfl, isStep_eq sh_add, items2, it_var, it_var, hx, hy]
    rfl
theorem st_skip {x : Str} {n : Int} (hx : isVar (.str x) = true) (h1 : 1 ≤ n) (hn : n.natAbs ≤ 10 ^ 30) : StepOk [.str "skip", .str x, .int n] where
  leaf := by
    rw [List.all_cons, List.all_cons, List.all_cons, kinds_leaf "skip" (by decide +kernel), leaf_var hx]
    show (true && (true && (decide (n.natAbs ≤ 10 ^ 30) && true))) = true
    rw [decide_eq_true hn]
    rfl
  one := by show 1 ≤ 3; decide
  four := by show 3 ≤ 4; decide
  step := by
    rw [show ([V.str "skip", V.str x, V.int n].map flD) = [.str "skip", .str x, .int n] from rfl, isStep_eq sh_skip, items2, it_var, it_len, hx]
    show (decide (2 = 2) && (true && (isInteger (.int n) && decide (1 ≤ n)))) = true
    rw [decide_eq_true h1]
    rfl
theorem st_need {m : Str} (hm : isNameS m = true) : StepOk [.str "need", .str m] where
  leaf := by
    rw [List.all_cons, List.all_cons, kinds_leaf "need" (by decide +kernel), leaf_name hm]
    rfl
  one := by show 1 ≤ 2; decide
  four := by show 2 ≤ 4; decide
  step := by
    rw [show ([V.str "need", V.str m].map flD) = [.str "need", .str m] from rfl, isStep_eq sh_need, items1, it_mod]
    exact hm
theorem st_export {m x : Str} (hm : isNameS m = true) (hx : isVar (.str x) = true) : StepOk [.str "export", .str m, .str x] where
  leaf := by
    rw [List.all_cons, List.all_cons, List.all_cons, kinds_leaf "export" (by decide +kernel), leaf_name hm, leaf_var hx]
    rfl
  one := by show 1 ≤ 3; decide
  four := by show 3 ≤ 4; decide
  step := by
    rw [show ([V.str "export", V.str m, V.str x].map flD) = [.str "export", .str m, .str x] from rfl, isStep_eq sh_export, items2, it_name, it_var, hx, show isName (.str m) = true from hm]
    rfl
theorem st_try {m x : Str} (hm : isNameS m = true) (hx : isVar (.str x) = true) : StepOk [.str "try", .str m, .str x] where
  leaf := by
    rw [List.all_cons, List.all_cons, List.all_cons, kinds_leaf "try" (by decide +kernel), leaf_name hm, leaf_var hx]
    rfl
  one := by show 1 ≤ 3; decide
  four := by show 3 ≤ 4; decide
  step := by
    rw [show ([V.str "try", V.str m, V.str x].map flD) = [.str "try", .str m, .str x] from rfl, isStep_eq sh_try, items2, it_mod, it_var, hx, show isName (.str m) = true from hm]
    rfl
theorem st_read {x m n : Str} (hx : isVar (.str x) = true) (hm : isNameS m = true) (hn : isNameS n = true) : StepOk [.str "read", .str x, .str m, .str n] where
  leaf := by
    rw [List.all_cons, List.all_cons, List.all_cons, List.all_cons, kinds_leaf "read" (by decide +kernel), leaf_name hm, leaf_name hn, leaf_var hx]
    rfl
  one := by show 1 ≤ 4; decide
  four := by show 4 ≤ 4; decide
  step := by
    rw [show ([V.str "read", V.str x, V.str m, V.str n].map flD) = [.str "read", .str x, .str m, .str n] from rfl, isStep_eq sh_read, items3, it_var, it_mod, it_name, hx, show isName (.str m) = true from hm, show isName (.str n) = true from hn]
    rfl
theorem st_fail : StepOk [.str "fail"] where
  leaf := by rw [List.all_cons, kinds_leaf "fail" (by decide +kernel)]; rfl
  one := by show 1 ≤ 1; decide
  four := by show 1 ≤ 4; decide
  step := by
    rw [show ([V.str "fail"].map flD) = [.str "fail"] from rfl, isStep_eq sh_fail]
    rfl
/-- one step over drawn names -/
def skipLen : PyData → Option Int
  | .tuple (.str z :: _ :: .int i :: _) => if z = "skip" then some i else none
  | _ => none
def skipOk (n : Int) (d : PyData) : Bool :=
  match skipLen d with
  | some i => decide (i ≤ n)
  | none => true
def isBefore (d : PyData) (n : Int) : Bool := isStep d && skipOk n d
def isExport : PyData → Bool
  | .tuple (.str z :: _) => z == "export"
  | _ => false
/-- what a step is -/
theorem step_form {d : PyData} (h : isStep d = true) : ∃ z ds, d = .tuple (.str z :: ds) := by
  cases d with
  | tuple ds =>
    cases ds with
    | nil => exact nomatch h
    | cons d0 ds =>
      cases d0 with
      | str z => exact ⟨z, ds, rfl⟩
      | _ => exact nomatch h
  | _ => exact nomatch h
theorem skip_form {ds : List PyData} (h : isStep (.tuple (.str "skip" :: ds)) = true) : ∃ x i, ds = [x, .int i] := by
  rw [isStep_eq sh_skip] at h
  obtain ⟨h1, h2⟩ := Bool.and_eq_true_iff.mp h
  have hl : ds.length = 2 := of_decide_eq_true h1
  match ds, hl with
  | [x, y], _ =>
    rw [items2, it_len] at h2
    obtain ⟨_, h3⟩ := Bool.and_eq_true_iff.mp h2
    obtain ⟨h4, _⟩ := Bool.and_eq_true_iff.mp h3
    cases y with
    | int i => exact ⟨x, i, rfl⟩
    | _ => exact nomatch h4
/-- the spot of a module in a step -/
def spotOf (z : Str) : Option Nat := if z = "need" then some 1 else if z = "try" then some 1 else if z = "read" then some 2 else none
def strOf : PyData → Option Str
  | .str x => some x
  | _ => none
/-- the module of a step -/
def modO : PyData → Option Str
  | .tuple (.str z :: ds) => (spotOf z).bind fun i => strOf ((PyData.str z :: ds).getD i .none)
  | _ => none
/-- a step with a spot has a name there -/
theorem spot_name {z : Str} {ds : List PyData} {i : Nat} (h : isStep (.tuple (.str z :: ds)) = true) (hs : spotOf z = some i) : ∃ m, (PyData.str z :: ds)[i]? = some (.str m) ∧ isNameS m = true := by
  have nm : ∀ {d : PyData}, isName d = true → ∃ m, d = .str m ∧ isNameS m = true := fun {d} hd => by
    cases d with
    | str m => exact ⟨m, rfl, hd⟩
    | _ => exact nomatch hd
  unfold spotOf at hs
  by_cases h1 : z = "need"
  · subst h1
    rw [if_pos rfl] at hs
    cases hs
    rw [isStep_eq sh_need] at h
    obtain ⟨a1, a2⟩ := Bool.and_eq_true_iff.mp h
    match ds, of_decide_eq_true a1 with
    | [x], _ =>
      rw [items1, it_mod] at a2
      obtain ⟨m, rfl, hm⟩ := nm a2
      exact ⟨m, rfl, hm⟩
  rw [if_neg h1] at hs
  by_cases h2 : z = "try"
  · subst h2
    rw [if_pos rfl] at hs
    cases hs
    rw [isStep_eq sh_try] at h
    obtain ⟨a1, a2⟩ := Bool.and_eq_true_iff.mp h
    match ds, of_decide_eq_true a1 with
    | [x, y], _ =>
      rw [items2, it_mod] at a2
      obtain ⟨m, rfl, hm⟩ := nm (Bool.and_eq_true_iff.mp a2).1
      exact ⟨m, rfl, hm⟩
  rw [if_neg h2] at hs
  by_cases h3 : z = "read"
  · subst h3
    rw [if_pos rfl] at hs
    cases hs
    rw [isStep_eq sh_read] at h
    obtain ⟨a1, a2⟩ := Bool.and_eq_true_iff.mp h
    match ds, of_decide_eq_true a1 with
    | [x, y, u], _ =>
      rw [items3, it_mod] at a2
      obtain ⟨m, rfl, hm⟩ := nm (Bool.and_eq_true_iff.mp (Bool.and_eq_true_iff.mp a2).2).1
      exact ⟨m, rfl, hm⟩
  rw [if_neg h3] at hs
  cases hs
theorem modO_some {z : Str} {ds : List PyData} {i : Nat} {m : Str} (hs : spotOf z = some i) (hm : (PyData.str z :: ds)[i]? = some (.str m)) : modO (.tuple (.str z :: ds)) = some m := by
  show (spotOf z).bind _ = some m
  rw [hs, Option.bind_some, List.getD_eq_getElem?_getD, hm]
  rfl
theorem modO_none {z : Str} {ds : List PyData} (hs : spotOf z = none) : modO (.tuple (.str z :: ds)) = none := by
  show (spotOf z).bind _ = none
  rw [hs]
  rfl
abbrev sSM : Stmt := topS 25
abbrev nSM : List Str := ["step", "item", "kind"]
theorem scSM : FnScope nSM ["step"] (defScope sSM) := ⟨rfl, rfl, rfl, by decide +kernel, rfl, by decide +kernel, by decide +kernel⟩
def spSM : Sp := fun vs H Q _ => ∃ v d, vs = [v] ∧ Dt H v d ∧ sm d = true ∧ isStep d = true ∧ ∀ T H', H T = none → Ex H H' → H' T = some (.lst ((modO d).toList.map V.str)) → Q (.ref T) H'
/-- where the modules stand -/
def isM (ks : List Str) (i : Nat) : Bool := decide (V.str (ks.getD i "") = V.str "module")
theorem mods_given {z : Str} {ks : List Str} {ds : List PyData} {xs : List V} {H : Hp} (hsh : shapeOf z = some ks) (h : isStep (.tuple (.str z :: ds)) = true) (hd : DtAll H xs ds) :
    given ks.length (isM ks) (fun i => xs.getD i .non) = (modO (.tuple (.str z :: ds))).toList.map V.str := by
  have lx := hd.length
  have hl : ds.length = ks.length := by
    rw [isStep_eq hsh] at h
    exact of_decide_eq_true (Bool.and_eq_true_iff.mp h).1
  have none_ : spotOf z = none → (List.range ks.length).filter (isM ks) = [] → given ks.length (isM ks) (fun i => xs.getD i .non) = (modO (.tuple (.str z :: ds))).toList.map V.str := fun h1 h2 => by
    unfold given
    rw [h2, modO_none h1]
    rfl
  have some_ : ∀ j, spotOf z = some (j + 1) → (List.range ks.length).filter (isM ks) = [j] → given ks.length (isM ks) (fun i => xs.getD i .non) = (modO (.tuple (.str z :: ds))).toList.map V.str := fun j h1 h2 => by
    obtain ⟨m, hm, _⟩ := spot_name h h1
    unfold given
    rw [h2, modO_some h1 hm]
    have hm' : ds[j]? = some (.str m) := hm
    have hj : j < ds.length := (List.getElem?_eq_some_iff.mp hm').1
    have hx : xs[j]? = some (xs.getD j .non) := by
      rw [List.getD_eq_getElem?_getD, List.getElem?_eq_getElem (by omega)]
      rfl
    obtain ⟨d', h3, h4⟩ := DtAll.get hd hx
    rw [hm'] at h3
    cases h3
    show [xs.getD j .non] = [V.str m]
    generalize xs.getD j .non = u at h4 ⊢
    cases h4
    rfl
  have two : ∀ {z' : Str} {ks' : List Str}, shapeOf z' = some ks' → z = z' → ks = ks' := fun h1 h2 => by
    rw [h2, h1] at hsh
    exact (Option.some.inj hsh).symm
  have cases8 : z = "set" ∨ z = "add" ∨ z = "skip" ∨ z = "export" ∨ z = "read" ∨ z = "need" ∨ z = "try" ∨ z = "fail" := by
    unfold shapeOf at hsh
    repeat' split at hsh
    all_goals first
      | (simp_all; done)
      | cases hsh
  rcases cases8 with e | e | e | e | e | e | e | e
  · have k := two sh_set e
    subst e k
    exact none_ (by decide +kernel) (by decide +kernel)
  · have k := two sh_add e
    subst e k
    exact none_ (by decide +kernel) (by decide +kernel)
  · have k := two sh_skip e
    subst e k
    exact none_ (by decide +kernel) (by decide +kernel)
  · have k := two sh_export e
    subst e k
    exact none_ (by decide +kernel) (by decide +kernel)
  · have k := two sh_read e
    subst e k
    exact some_ 1 (by decide +kernel) (by decide +kernel)
  · have k := two sh_need e
    subst e k
    exact some_ 0 (by decide +kernel) (by decide +kernel)
  · have k := two sh_try e
    subst e k
    exact some_ 0 (by decide +kernel) (by decide +kernel)
  · have k := two sh_fail e
    subst e k
    exact none_ (by decide +kernel) (by decide +kernel)
section
variable {P : Program} {w : World} {K : PySem.W.Frag} {mg : Str → Option Value} {base : Heap}
theorem ok_sm {f dS : Addr} {fd : FuncData} {k n : Nat} {es : Array DictEntry} (F : Fun K "step_modules" "step_modules" sSM f fd) (B : Blt mg) (gS : mg "SHAPES" = some (.ref dS)) (S : Shapes K w dS es n) : FnOk P w K mg base CX0 (k + 1) f fd ["step"] spSM := by
  refine F.ok scSM (fun vs H Q E h => by obtain ⟨_, _, rfl, _⟩ := h; rfl) (fun cdv A outer s H vs Q E hr h => ?_)
  obtain ⟨v, d, rfl, hd, hs, hst, q⟩ := h
  refine ⟨_, pss_one (ps_ret (pe_lc (own := [("item", 1), ("kind", 2)]) (g := gTup K 2 (gCons (gName 1) (gCons (gName 2) gNil))) (tt := tTest (tOp rEq (tVar 2) (tC (.str "module")))) rfl scSM.nd
      (RZ.pi_zipA (by rfl) B.zip (pa_cons (pe_slice sl_tup (pv 0) (po_some pe_int) po_none) (pa_cons (pe_ix ix_kdict (pe_glob (v := .ref dS) (by rfl) gS rfl) (pe_ix ix_tup (pv 0) pe_int (fun _ _ => rfl)) (fun _ _ => rfl)) pa_nil)))
      (blkOk_by (own := [("item", 1), ("kind", 2)]) (N := nSM) (sc := defScope sSM) (by decide +kernel))
      (fun _ _ _ _ _ => by exact pg_tup rfl (pgs_cons (pg_name (i := 1) scSM.nd rfl (Or.inl rfl)) (pgs_cons (pg_name (i := 2) scSM.nd rfl (Or.inl rfl)) pgs_nil))) (fun _ _ _ _ _ => by exact pts_one (pt_cmpR op_eq (pv 2) pe_str (nomark _))) (fun _ _ _ _ _ => pv 1))), ?_⟩
  obtain ⟨z, ds, rfl⟩ := step_form hst
  have ha : ∃ a, v = .ref a := by cases hd; exact ⟨_, rfl⟩
  obtain ⟨a, rfl⟩ := ha
  obtain ⟨ys, hy0, hzs⟩ := dt_tup hd
  have hf : ∃ xs, ys = .str z :: xs ∧ DtAll H xs ds := by
    cases hzs with
    | cons h0 hr0 => cases h0; exact ⟨_, rfl, hr0⟩
  obtain ⟨xs, rfl, hds⟩ := hf
  obtain ⟨ks, hsh⟩ : ∃ ks, shapeOf z = some ks := by
    cases hsh : shapeOf z with
    | some ks => exact ⟨ks, rfl⟩
    | none =>
      have zz : isStep (.tuple (.str z :: ds)) = false := by
        show (match shapeOf z with | some ks => _ | none => false) = false
        rw [hsh]
      rw [zz] at hst
      cases hst
  obtain ⟨aS, n1, tS⟩ := S.yes z ks hsh
  have lx := hds.length
  have hl : ds.length = ks.length := by
    rw [isStep_eq hsh] at hst
    exact of_decide_eq_true (Bool.and_eq_true_iff.mp hst).1
  have l10 : ks.length ≤ 1000 := by
    rw [sm, Bool.and_eq_true] at hs
    have := of_decide_eq_true hs.1
    rw [List.length_cons] at this
    omega
  refine s_retL (el_lcW (n := ks.length) (Y := YPair (fun i => xs[i]?) fun i => (ks.map V.str)[i]?) (isM ks) (fun i => xs.getD i .non) (by omega) (fun H1 e1 R r => ?_) (fun i y H1 H2 e1 hi hy => ?_)) fun T H1 zT e1 hT => q T H1 zT e1 (by rw [hT, mods_given hsh hst hds])
  · refine eu_tail (ev_var rfl) (st_of (e1 _ _ hy0)) H1 (Ex.refl H1) _ fun p H2 hp e2 h2 => ?_
    refine ev_op (ev_var rfl) ev_c (rv_ixT (K := K) (st_of ((e1.trans e2) _ _ hy0)) (atI_nat (j := 0) rfl)) H2 (Ex.refl H2) _ fun H3 e3 => ?_
    refine ⟨dS, z, .ref aS, rfl, rfl, ⟨es, n, .ref aS, S.kd.at_, S.kd.lit, n1, rfl⟩, ?_⟩
    refine ⟨p, aS, xs, ks.map V.str, rfl, .inr ⟨st_of (e3 _ _ h2), tS.sq, r H3 _ _ (walk_zipT (xs := xs) (ys := ks.map V.str) (by rw [List.length_map]; omega)) (fun H7 H8 e7 z => ⟨ex_t e7 z.1, ex_t e7 z.2⟩) (e2.trans e3) ⟨st_of (e3 _ _ h2), tS.sq⟩⟩⟩
  · obtain ⟨T, x1, y1, rfl, hT, rfl, hx1, hy1⟩ := hy
    have hk1 : ks[i]? = some (ks.getD i "") := by
      rw [List.getElem?_eq_getElem hi]
      simp [List.getD, List.getElem?_eq_getElem hi]
    have ey : y1 = V.str (ks.getD i "") := by
      have hy2 : (ks.map V.str)[i]? = some y1 := hy1
      rw [List.getElem?_map, hk1] at hy2
      exact (Option.some.inj hy2).symm
    subst ey
    have ex1 : xs.getD i .non = x1 := by
      have hx2 : xs[i]? = some x1 := hx1
      rw [List.getD_eq_getElem?_getD, hx2]
      rfl
    refine ⟨Ex.new hT, [some (.ref a), some x1, some (.str (ks.getD i ""))], rfl, fun R r => pair_go upd_same r, et_test (ev_op (ev_var rfl) ev_c (rv_eq rfl)), fun _ => ?_⟩
    rw [ex1]
    exact ev_var rfl
end
end Cr
namespace Cr
open PySem PySem.Spec PyProof.Rows L2 Evl
/-- a def of the program as it is called -/
structure HasO (P : Program) (w : World) (K : PySem.W.Frag) (mg : Str → Option Value) (base : Heap) (k : Nat) (x : Str) (ps : List Str) (sp : Sp) : Prop where
  ex : ∃ f fd, FnOk P w K mg base CX0 k f fd ps sp ∧ Binds K fd ps [] ∧ PySem.W.keepIn K (.ref f) = true ∧ mg x = some (.ref f)
/-- .. that may raise -/
structure HasE (P : Program) (w : World) (K : PySem.W.Frag) (mg : Str → Option Value) (base : Heap) (k : Nat) (x : Str) (ps : List Str) (sp : Sp) : Prop where
  ex : ∃ f fd, FnOk P w K mg base (L2.CX P w) k f fd ps sp ∧ Binds K fd ps [] ∧ PySem.W.keepIn K (.ref f) = true ∧ mg x = some (.ref f)
theorem fnUp {P : Program} {w : World} {K : PySem.W.Frag} {mg : Str → Option Value} {base : Heap} {CX : CXT} {j k : Nat} {f : Addr} {fd : FuncData} {ps : List Str} {sp : Sp} (F : FnOk P w K mg base CX j f fd ps sp) (le : j ≤ k) : FnOk P w K mg base CX k f fd ps sp :=
  ⟨F.len, fun A outer s H args us vs Q E hr e hb r h => F.run A outer s H args us vs Q E (hr.mono le) e hb r h⟩
theorem HasO.up {P : Program} {w : World} {K : PySem.W.Frag} {mg : Str → Option Value} {base : Heap} {x : Str} {ps : List Str} {sp : Sp} {j k : Nat} (h : HasO P w K mg base j x ps sp) (le : j ≤ k) : HasO P w K mg base k x ps sp := by
  obtain ⟨f, fd, G, b, kp, g⟩ := h.ex
  exact ⟨⟨f, fd, fnUp G le, b, kp, g⟩⟩
theorem HasE.up {P : Program} {w : World} {K : PySem.W.Frag} {mg : Str → Option Value} {base : Heap} {x : Str} {ps : List Str} {sp : Sp} {j k : Nat} (h : HasE P w K mg base j x ps sp) (le : j ≤ k) : HasE P w K mg base k x ps sp := by
  obtain ⟨f, fd, G, b, kp, g⟩ := h.ex
  exact ⟨⟨f, fd, fnUp G le, b, kp, g⟩⟩
/-! ### errors with one number -/
/-- where an own error's class stands, and its __init__ -/
structure ErrAt (P : Program) (K : PySem.W.Frag) (mg : Str → Option Value) (C fI : Addr) (fd : FuncData) (b : XB) (cn qual fld : Str) (st : Stmt) : Prop where
  ex : ∃ (cda cc : Addr) (oc : Value) (od an : Option Addr) (kV doc pm ct : Value) (osl : Array (Option Value)),
    fd = PySem.W.ksFn "__init__" qual (defArgs st) (defBody st) (defScope st) .none kV doc pm an (.ref cda) ct cc ∧
    K.lookup fI = some ⟨oc, od, .func fd, osl⟩ ∧ PySem.W.codeIn K (.ref cda) qual = true ∧ SupG P K C cda cc b
  init : PySem.W.findIn K (.ref C) "__init__" = some (some (.ref fI))
  fn : PySem.W.typeIn K (.ref fI) = some (.type "function")
  no : PySem.W.findIn K (.ref C) fld = some none
  at_ : mg cn = some (.ref C)
/-- an error with the number in its field, as it is made -/
structure MkNum (P : Program) (w : World) (K : PySem.W.Frag) (mg : Str → Option Value) (base : Heap) (C : Addr) (cn p fld : Str) : Prop where
  ex : ∃ (fI : Addr) (fd : FuncData) (b : XB), OexG K C b ∧ FnOk P w K mg base CX0 1 fI fd ["self", p] (spInit C fld) ∧ Binds K fd ["self", p] [] ∧
    PySem.W.findIn K (.ref C) "__init__" = some (some (.ref fI)) ∧ PySem.W.typeIn K (.ref fI) = some (.type "function") ∧ mg cn = some (.ref C)
abbrev sInitP : Stmt := inClass (topS 4) 0
theorem scInitP : SupScope ["self", "position"] ["self", "position"] (defScope sInitP) := ⟨rfl, rfl, rfl, by decide +kernel, rfl, by decide +kernel, by decide +kernel, by decide +kernel, by decide +kernel, by decide +kernel⟩
abbrev sInitW : Stmt := inClass (topS 9) 0
theorem scInitW : SupScope ["self", "position"] ["self", "position"] (defScope sInitW) := ⟨rfl, rfl, rfl, by decide +kernel, rfl, by decide +kernel, by decide +kernel, by decide +kernel, by decide +kernel, by decide +kernel⟩
section
variable {P : Program} {w : World} {K : PySem.W.Frag} {mg : Str → Option Value} {base : Heap}
theorem ok_initP {C fI : Addr} {fd : FuncData} {b : XB} {k : Nat} (T : ErrAt P K mg C fI fd b "InvalidProgram" "InvalidProgram.__init__" "position" sInitP) (B : Blt mg) : FnOk P w K mg base CX0 (k + 1) fI fd ["self", "position"] (spInit C "position") := by
  obtain ⟨cda, cc, oc, od, an, kV, doc, pm, ct, osl, rfl, lk, hcd, S⟩ := T.ex
  refine okSupG lk hcd scInitP S B.sup rfl rfl (by decide) (fun vs H Q E h => by obtain ⟨_, _, rfl, _⟩ := h; rfl) (fun A outer s H vs Q E h => ?_)
  obtain ⟨a, i, rfl, hi, ha, q⟩ := h
  refine ⟨a, _, _, rfl, ha, pa_cons (pe_joined (.cons pe_str (.cons (pe_fmt (pv 1)) .nil))) pa_nil, pss_one (ps_ostG (pv 0) (pv 1)), ?_⟩
  have l0 : (Str.empty ++ ("not a program, position " : Str)).length ≤ 100 := by decide +kernel
  have l1 := int_text hi
  refine ⟨_, rfl, Nat.le_trans l0 (by rw [sizeLine_eq]; decide), .int i, rfl, .inr ⟨i, rfl, by omega, _, rfl, by rw [len_add, sizeLine_eq]; omega, ?_⟩⟩
  refine ⟨by show 1 ≤ 1000; decide, ha, .int i, rfl, .ref a, rfl, a, C, b, rfl, S.oex, T.no, .inl ⟨ha, fun dx hdx ne => q dx hdx ne⟩⟩
theorem mkP {C fI : Addr} {fd : FuncData} {b : XB} (T : ErrAt P K mg C fI fd b "InvalidProgram" "InvalidProgram.__init__" "position" sInitP) (B : Blt mg) : MkNum P w K mg base C "InvalidProgram" "position" "position" := by
  have G : FnOk P w K mg base CX0 1 fI fd ["self", "position"] (spInit C "position") := ok_initP T B
  obtain ⟨cda, cc, oc, od, an, kV, doc, pm, ct, osl, rfl, lk, hcd, S⟩ := T.ex
  exact ⟨⟨fI, _, b, S.oex, G, .all fun us hl => match us, hl with | [_, _], _ => rfl, T.init, T.fn, T.at_⟩⟩
theorem ok_initW {C fI : Addr} {fd : FuncData} {b : XB} {k : Nat} (T : ErrAt P K mg C fI fd b "WrongStep" "WrongStep.__init__" "position" sInitW) (B : Blt mg) : FnOk P w K mg base CX0 (k + 1) fI fd ["self", "position"] (spInit C "position") := by
  obtain ⟨cda, cc, oc, od, an, kV, doc, pm, ct, osl, rfl, lk, hcd, S⟩ := T.ex
  refine okSupG lk hcd scInitW S B.sup rfl rfl (by decide) (fun vs H Q E h => by obtain ⟨_, _, rfl, _⟩ := h; rfl) (fun A outer s H vs Q E h => ?_)
  obtain ⟨a, i, rfl, hi, ha, q⟩ := h
  refine ⟨a, _, _, rfl, ha, pa_cons (pe_joined (.cons pe_str (.cons (pe_fmt (pv 1)) (.cons pe_str .nil)))) pa_nil, pss_one (ps_ostG (pv 0) (pv 1)), ?_⟩
  have l0 : (Str.empty ++ ("the step at position " : Str)).length ≤ 100 := by decide +kernel
  have l2 : ((" is of another kind" : Str)).length ≤ 100 := by decide +kernel
  have l1 := int_text hi
  refine ⟨_, rfl, Nat.le_trans l0 (by rw [sizeLine_eq]; decide), .int i, rfl, .inr ⟨i, rfl, by omega, _, rfl, by rw [len_add, sizeLine_eq]; omega, _, rfl, by rw [len_add, len_add, sizeLine_eq]; omega, ?_⟩⟩
  refine ⟨by show 1 ≤ 1000; decide, ha, .int i, rfl, .ref a, rfl, a, C, b, rfl, S.oex, T.no, .inl ⟨ha, fun dx hdx ne => q dx hdx ne⟩⟩
theorem mkW {C fI : Addr} {fd : FuncData} {b : XB} (T : ErrAt P K mg C fI fd b "WrongStep" "WrongStep.__init__" "position" sInitW) (B : Blt mg) : MkNum P w K mg base C "WrongStep" "position" "position" := by
  have G : FnOk P w K mg base CX0 1 fI fd ["self", "position"] (spInit C "position") := ok_initW T B
  obtain ⟨cda, cc, oc, od, an, kV, doc, pm, ct, osl, rfl, lk, hcd, S⟩ := T.ex
  exact ⟨⟨fI, _, b, S.oex, G, .all fun us hl => match us, hl with | [_, _], _ => rfl, T.init, T.fn, T.at_⟩⟩
end
end Cr
namespace Cr
open PySem PySem.Spec PyProof.Rows L2 Evl
abbrev sBefore : Stmt := topS 26
abbrev sSteps : Stmt := topS 27
abbrev nBefore : List Str := ["value", "steps_after", "modules", "module"]
abbrev nSteps : List Str := ["value", "is_main", "modules", "position", "step"]
theorem scBefore : FnScope nBefore ["value", "steps_after", "modules"] (defScope sBefore) := ⟨rfl, rfl, rfl, by decide +kernel, rfl, by decide +kernel, by decide +kernel⟩
theorem scSteps : FnScope nSteps ["value", "is_main", "modules"] (defScope sSteps) := ⟨rfl, rfl, rfl, by decide +kernel, rfl, by decide +kernel, by decide +kernel⟩
/-- the modules that are allowed: all, or those of a list -/
def MdAt (H : Hp) (m : V) : Option (List V) → Prop
  | none => m = .non
  | some xs => ∃ a, m = .ref a ∧ H a = some (.lst xs) ∧ xs.all flatV = true
theorem MdAt.ex {H H' : Hp} {m : V} {ms : Option (List V)} (e : Ex H H') (h : MdAt H m ms) : MdAt H' m ms := by
  cases ms with
  | none => exact h
  | some xs =>
    obtain ⟨a, h1, h2, h3⟩ := h
    exact ⟨a, h1, e _ _ h2, h3⟩
def modsOk (ms : Option (List V)) (d : PyData) : Bool :=
  match ms with
  | none => true
  | some xs => (modO d).toList.all fun x => inV (.str x) xs
def fitsIn (ms : Option (List V)) (d : PyData) (n : Int) : Bool := isBefore d n && modsOk ms d
def spBefore : Sp := fun vs H Q _ => ∃ v d n m ms, vs = [v, .int n, m] ∧ Dt H v d ∧ sm d = true ∧ MdAt H m ms ∧ ∀ H', Ex H H' → Q (.bl (fitsIn ms d n)) H'
theorem spv_before {H : Hp} {v m : V} {d : PyData} {n : Int} {ms : Option (List V)} (h : Dt H v d) (s : sm d = true) (hm : MdAt H m ms) : SpV spBefore [v, .int n, m] H (.bl (fitsIn ms d n)) := fun H1 e Q q E => ⟨v, d, n, m, ms, rfl, Dt.ex e h, s, hm.ex e, q⟩
def tooFar (n : Int) (d : PyData) : Bool := !skipOk n d
theorem skipLen_ne {z : Str} {ds : List PyData} (hz : z ≠ "skip") : skipLen (.tuple (.str z :: ds)) = none := by
  unfold skipLen
  split
  · rename_i z' _ i _ e2
    cases e2
    rw [if_neg hz]
  · rfl
section
variable {P : Program} {w : World} {K : PySem.W.Frag} {mg : Str → Option Value} {base : Heap}
theorem ok_before {f : Addr} {fd : FuncData} {k : Nat} (F : Fun K "is_step_before" "is_step_before" sBefore f fd) (B : Blt mg) (h1 : HasO P w K mg base k "is_step" ["value"] (spD isStep)) (h2 : HasO P w K mg base k "step_modules" ["step"] spSM) :
    FnOk P w K mg base CX0 (k + 1) f fd ["value", "steps_after", "modules"] spBefore := by
  obtain ⟨f1, d1, G1, b1, k1, g1⟩ := h1.ex
  obtain ⟨f2, d2, G2, b2, k2, g2⟩ := h2.ex
  refine F.ok scBefore (fun vs H Q E h => by obtain ⟨_, _, _, _, _, rfl, _⟩ := h; rfl) (fun cdv A outer s H vs Q E hr h => ?_)
  obtain ⟨v, d, n, m, ms, rfl, hd, hs, hm, q⟩ := h
  refine ⟨_, pss_cons (ps_if (PW.pt (pw_or (pt_not (pt_val (pe_call G1 hr (by rfl) g1 k1 b1 .nil pass0 (pa_cons (pv 0) pa_nil))))
      (pw_or1 (PW.pt (pw_and (pt_cmpR op_eq (pe_ix ix_tup (pv 0) pe_int (fun _ _ => rfl)) pe_str (nomark _)) (pw_and1 (pt_cmpR op_gt (pe_ix ix_tup (pv 0) pe_int (fun _ _ => rfl)) (pv 1) (nomark _)))))))) (pss_one (ps_ret pe_bl)) pss_nil)
    (pss_one (ps_ret (pe_or (pe_cmpR op_isN (pv 2) pe_non (nomark _)) (pe_one (pe_callB (cr_all rfl) (by rfl) B.all bAll (pa_cons
      (pe_lc (own := [("module", 3)]) (g := gName 3) (tt := tYes) (te := tOp (rIn K false) (tVar 3) (tVar 2)) rfl scBefore.nd (pi_list (pe_call G2 hr (by rfl) g2 k2 b2 .nil pass0 (pa_cons (pv 0) pa_nil))) (blkOk_by (own := [("module", 3)]) (N := nBefore) (sc := defScope sBefore) (by decide +kernel))
        (fun _ _ _ _ _ => pg_name (i := 3) scBefore.nd rfl (Or.inl rfl)) (fun _ _ _ _ _ => pts_nil) (fun _ _ _ _ _ => by exact pe_cmpR op_in_seq (pv 3) (pv 2) (by rfl))) pa_nil)))))), ?_⟩
  refine q_when (b := !isStep d || tooFar n d) (et_or (et_not (et_B (ev_call (ea_cons (ev_var rfl) ea_nil) (spv_D hd hs)))) fun hb => ?_) (fun hb H1 e1 => ?_) (fun hb H1 e1 => ?_)
  · have st : isStep d = true := by rw [Bool.not_eq_false'] at hb; exact hb
    obtain ⟨z, ds, rfl⟩ := step_form st
    have ha : ∃ a, v = .ref a := by cases hd; exact ⟨_, rfl⟩
    obtain ⟨a, rfl⟩ := ha
    obtain ⟨xs, hx, hds⟩ := dt_tup hd
    by_cases hz : z = "skip"
    · subst hz
      obtain ⟨x, i, rfl⟩ := skip_form st
      cases hds with
      | cons h0 hr1 =>
        cases hr1 with
        | cons h1 hr2 =>
          cases hr2 with
          | cons h2 hr3 =>
            cases h0; cases h2; cases hr3
            refine et_is (et_and (b := decide (i > n)) (et_test (ev_op (ev_op (ev_var rfl) ev_c (rv_ixT (st_of hx) (atI_nat (j := 0) rfl))) ev_c (rv_eq rfl))) fun _ => et_test (ev_op (ev_op (ev_var rfl) ev_c (rv_ixT (st_of hx) (atI_nat (j := 2) rfl))) (ev_var rfl) rv_I0)) ?_
            rw [decide_eq_true rfl, Bool.true_and]
            show _ = !decide (i ≤ n)
            by_cases hi : i ≤ n
            · rw [decide_eq_true hi, decide_eq_false (by omega)]; rfl
            · rw [decide_eq_false hi, decide_eq_true (by omega)]; rfl
    · cases hds with
      | cons h0 hr1 =>
        cases h0
        have ne : V.str z ≠ V.str "skip" := fun e => hz (V.str.inj e)
        refine et_is (et_and (b := true) (et_test (ev_op (ev_op (ev_var rfl) ev_c (rv_ixT (st_of hx) (atI_nat (j := 0) rfl))) ev_c (rv_eq rfl))) fun z2 => absurd (of_decide_eq_true z2) ne) ?_
        rw [decide_eq_false ne]
        unfold tooFar skipOk
        rw [skipLen_ne hz]
        rfl
  · refine s_ret ev_c fun H2 e2 => ?_
    have g := q H2 (e1.trans e2)
    have zz : fitsIn ms d n = false := by
      unfold fitsIn isBefore
      rcases Bool.or_eq_true_iff.mp hb with z | z
      · rw [Bool.not_eq_true'] at z
        rw [z]; rfl
      · unfold tooFar at z
        rw [Bool.not_eq_true'] at z
        rw [z, Bool.and_false]; rfl
    rw [zz] at g
    exact g
  · rw [Bool.or_eq_false_iff] at hb
    have st : isStep d = true := by have z := hb.1; rw [Bool.not_eq_false'] at z; exact z
    have sk : skipOk n d = true := by have z := hb.2; unfold tooFar at z; rw [Bool.not_eq_false'] at z; exact z
    have bf : isBefore d n = true := by unfold isBefore; rw [st, sk]; rfl
    refine s_ret (v := .bl (fitsIn ms d n)) ?_ fun H2 e2 => q H2 (e1.trans e2)
    have ff : fitsIn ms d n = modsOk ms d := by unfold fitsIn; rw [bf]; rfl
    rw [ff]
    cases ms with
    | none =>
      have hm' : m = .non := hm
      subst hm'
      exact ev_is (ev_orV (b := true) (ev_op (ev_var rfl) ev_c (rv_val fun H2 _ Q q => ⟨rfl, q⟩)) fun z => nomatch z) rfl
    | some xs =>
      obtain ⟨a, rfl, hxs, hf⟩ := hm
      have hx1 := e1 _ _ hxs
      have lst : EvL (tCall spSM [] E0 (tCons (tVar 0) tNil)) (L2.start nBefore [v, .int n, .ref a]) H1 ((modO d).toList.map V.str) := fun H2 e2 Q' q' => ⟨v, rfl, v, d, rfl, Dt.ex (e1.trans e2) hd, hs, st, q'⟩
      have l1 : (modO d).toList.length ≤ 1 := by cases modO d <;> simp
      have lc := el_lcNL (K := K) (j := 3) (vs := [3]) (t := tYes) (te := tOp (rIn K false) (tVar 3) (tVar 2)) (fun _ => true) (fun i => .bl (inV (.str ((modO d).toList.getD i "")) xs)) lst (by rw [List.length_map]; omega) (fun _ => rfl) (fun i x H2 e2 hx => fun H3 _ Q q => q H3 (Ex.refl H3))
        (fun i x H2 e2 hx _ => by
          rw [List.getElem?_map] at hx
          have hi : i < (modO d).toList.length := by
            cases hh : (modO d).toList[i]? with
            | none => rw [hh] at hx; cases hx
            | some y => exact (List.getElem?_eq_some_iff.mp hh).1
          rw [List.getElem?_eq_getElem hi] at hx
          have ex : x = .str ((modO d).toList.getD i "") := by
            rw [List.getD_eq_getElem?_getD, List.getElem?_eq_getElem hi]
            exact (Option.some.inj hx).symm
          subst ex
          exact ev_op (ev_var rfl) (ev_var rfl) (rv_isL (sq_of (e2 _ _ hx1)) rfl hf))
      rw [List.length_map] at lc
      have eg : given (modO d).toList.length (fun _ => true) (fun i => V.bl (inV (.str ((modO d).toList.getD i "")) xs)) = ((List.range (modO d).toList.length).map fun i => inV (.str ((modO d).toList.getD i "")) xs).map V.bl := by
        rw [given_all, List.map_map]; rfl
      rw [eg] at lc
      refine ev_is (ev_orV (ev_op (ev_var rfl) ev_c (rv_val fun H2 _ Q q => ⟨rfl, q⟩)) fun _ => ev_all lc) ?_
      rw [decide_eq_false (fun z => nomatch z), Bool.false_or]
      congr 1
      exact all_range (modO d).toList "" fun x => inV (.str x) xs
end
end Cr
namespace Cr
open PySem PySem.Spec PyProof.Rows L2 Evl
def wrongAt (ms : Option (List V)) (main : Bool) (ds : List PyData) (i : Nat) : Bool := !fitsIn ms (ds.getD i .none) ((ds.length : Int) - i - 1) || (main && isExport (ds.getD i .none))
def firstBad (ms : Option (List V)) (main : Bool) (ds : List PyData) : Option Nat := (List.range ds.length).find? (wrongAt ms main ds)
def dueOf (ms : Option (List V)) (main : Bool) : PyData → Option Int
  | .list ds => if ds.length > 30 then some (-1) else (firstBad ms main ds).map fun i => (i : Int)
  | _ => some (-1)
theorem first_at {ms : Option (List V)} {main : Bool} {ds : List PyData} {i : Nat} (hi : i < ds.length) (hw : wrongAt ms main ds i = true) (hb : ∀ j, j < i → wrongAt ms main ds j = false) : firstBad ms main ds = some i := by
  unfold firstBad
  have e : List.range ds.length = List.range i ++ (List.range (ds.length - i)).map (i + ·) := by
    rw [← List.range_add]
    congr 1
    omega
  rw [e, List.find?_append]
  have n1 : (List.range i).find? (wrongAt ms main ds) = none := by
    rw [List.find?_eq_none]
    intro j hj
    rw [hb j (List.mem_range.mp hj)]
    decide
  rw [n1, Option.none_or]
  obtain ⟨m, hm⟩ : ∃ m, ds.length - i = m + 1 := ⟨ds.length - i - 1, by omega⟩
  rw [hm, List.range_succ_eq_map, List.map_cons, List.find?_cons]
  rw [Nat.add_zero, hw]
theorem first_none {ms : Option (List V)} {main : Bool} {ds : List PyData} (hb : ∀ j, j < ds.length → wrongAt ms main ds j = false) : firstBad ms main ds = none := by
  unfold firstBad
  rw [List.find?_eq_none]
  intro j hj
  rw [hb j (List.mem_range.mp hj)]
  decide
/-- check_steps -/
def spSteps (C : Addr) : Sp := fun vs H Q E => ∃ v d main m ms, vs = [v, .bl main, m] ∧ Dt H v d ∧ sm d = true ∧ MdAt H m ms ∧ (dueOf ms main d = none → ∀ H', Ex H H' → Q .non H') ∧
  ∀ i, dueOf ms main d = some i → ∀ dx H', H dx = none → Ex H H' → H' dx = some (.xd [("position", .int i)]) → E (.ref C) (some dx) H'
def spCheck (C : Addr) : Sp := fun vs H Q E => ∃ v d main, vs = [v, .bl main] ∧ Dt H v d ∧ sm d = true ∧ (dueOf none main d = none → ∀ H', Ex H H' → Q .non H') ∧
  ∀ i, dueOf none main d = some i → ∀ dx H', H dx = none → Ex H H' → H' dx = some (.xd [("position", .int i)]) → E (.ref C) (some dx) H'
theorem sm_all {ds : List PyData} (h : sm (.list ds) = true) : smAll ds = true := by
  rw [sm] at h
  exact (Bool.and_eq_true_iff.mp h).2
def tooLong : PyData → Bool
  | .list ds => decide (ds.length > 30)
  | _ => true
theorem due_long {ms : Option (List V)} {main : Bool} {d : PyData} (h : tooLong d = true) : dueOf ms main d = some (-1) := by
  cases d with
  | list ds => exact if_pos (of_decide_eq_true h)
  | _ => rfl
theorem list_form {H : Hp} {v : V} {d : PyData} (hd : Dt H v d) (h : isT "list" d = true) : ∃ a xs ds, v = .ref a ∧ d = .list ds ∧ H a = some (.lst xs) ∧ DtAll H xs ds := by
  cases hd with
  | lst h1 h2 => exact ⟨_, _, _, rfl, rfl, h1, h2⟩
  | _ => exact absurd h (by first | decide | (simp [isT, isTs, tyT]))
section
variable {P : Program} {w : World} {K : PySem.W.Frag} {mg : Str → Option Value} {base : Heap}
theorem ok_steps {f C : Addr} {fd : FuncData} {k : Nat} (F : Fun K "check_steps" "check_steps" sSteps f fd) (B : Blt mg) (T : MkNum P w K mg base C "InvalidProgram" "position" "position") (hk2 : 2 ≤ k) {tM : Tok} (gM : mg "MOST_STEPS" = some (.int 30 tM))
    (h1 : HasO P w K mg base k "is_step_before" ["value", "steps_after", "modules"] spBefore) : FnOk P w K mg base (L2.CX P w) (k + 1) f fd ["value", "is_main", "modules"] (spSteps C) := by
  obtain ⟨f1, d1, G1, b1, k1, g1⟩ := h1.ex
  obtain ⟨fI, fdI, bb, Ox, FI, bI, iI, tI, gC⟩ := T.ex
  refine F.okX scSteps (fun vs H Q E h => by obtain ⟨_, _, _, _, _, rfl, _⟩ := h; rfl) (fun cdv A outer s H vs Q E hr h => ?_)
  obtain ⟨v, d, main, m, ms, rfl, hd, hs, hm, q, qe⟩ := h
  refine ⟨_, pss_cons (ps_if (PW.pt (pw_or (pt_not (pt_val (pe_callB call_isi (by rfl) B.isi bIsi (pa_cons (pv 0) (pa_cons (pe_bltn (v := .ty "list") (by rfl) B.list bList rfl) pa_nil)))))
      (pw_or1 (pt_cmpR op_gt (pe_callB call_len_seq (by rfl) B.len bLen (pa_cons (pv 0) pa_nil)) (pe_glob (v := .int 30) (by rfl) gM ⟨_, rfl⟩) (nomark _)))))
      (pss_one (ps_raise rfl (takes_of rfl rfl rfl rfl) (pmkG Ox iI tI FI (hr.mono hk2) bI .nil pass0 (by rfl) gC (pa_cons (pe_un un_neg pe_int) pa_nil)))) pss_nil)
    (pss_one (ps_for (passes_of rfl) rfl (pi_enum (by rfl) B.enum (pa_cons (pv 0) pa_nil)) (pg_tup rfl (pgs_cons (pg_name (i := 3) scSteps.nd rfl (.inl rfl)) (pgs_cons (pg_name (i := 4) scSteps.nd rfl (.inl rfl)) pgs_nil)))
      (pss_cons (ps_if (pt_not (pt_val (pe_call G1 hr (by rfl) g1 k1 b1 .nil pass0 (pa_cons (pv 4) (pa_cons (pe_op op_sub (pe_op op_sub (pe_callB call_len_seq (by rfl) B.len bLen (pa_cons (pv 0) pa_nil)) (pv 3)) pe_int) (pa_cons (pv 2) pa_nil))))))
        (pss_one (ps_raise rfl (takes_of rfl rfl rfl rfl) (pmkG Ox iI tI FI (hr.mono hk2) bI .nil pass0 (by rfl) gC (pa_cons (pv 3) pa_nil)))) pss_nil)
      (pss_one (ps_if (PW.pt (pw_and (pt_cmpR op_isBl (pv 1) pe_bl (nomark _)) (pw_and1 (pt_cmpR op_eq (pe_ix ix_tup (pv 4) pe_int (fun _ _ => rfl)) pe_str (nomark _)))))
        (pss_one (ps_raise rfl (takes_of rfl rfl rfl rfl) (pmkG Ox iI tI FI (hr.mono hk2) bI .nil pass0 (by rfl) gC (pa_cons (pv 3) pa_nil)))) pss_nil))))), ?_⟩
  -- raised
  have up : ∀ {i : Int} {H1 : Hp}, dueOf ms main d = some i → Ex H H1 → ∀ dx, H1 dx = none → E (.ref C) (some dx) (upd H1 dx (.xd [("position", .int i)])) := fun hi e dx hz => qe _ hi dx _ (fresh_back e hz) (e.trans (Ex.new hz)) upd_same
  have isL := rc_isi (K := K) (T := "list") hd (by decide)
  refine q_when (b := !isT "list" d || tooLong d) (et_or (et_not (et_B (ev_cb (ea_cons (ev_var rfl) (ea_cons ev_c ea_nil)) isL))) fun hb => ?_) (fun hb H1 e1 => ?_) (fun hb H1 e1 => ?_)
  · have hL : isT "list" d = true := by rw [Bool.not_eq_false'] at hb; exact hb
    obtain ⟨a, xs, ds, rfl, rfl, hx, hds⟩ := list_form hd hL
    refine et_is (et_test (ev_op (ev_cb (ea_cons (ev_var rfl) ea_nil) (rc_lenL (sq_of hx))) ev_c rv_I0)) ?_
    show decide ((xs.length : Int) > 30) = decide (ds.length > 30)
    rw [hds.length]
    exact decide_eq_decide.mpr (by omega)
  · have hL : tooLong d = true := by
      cases d with
      | list ds =>
        have hb' : (!isT "list" (.list ds) || tooLong (.list ds)) = true := hb
        rw [show isT "list" (.list ds) = true from rfl, Bool.not_true, Bool.false_or] at hb'
        exact hb'
      | _ => rfl
    exact mk_num ⟨1, rfl, -1, rfl, by decide +kernel, fun dx hz => up (due_long hL) e1 dx hz⟩ (fun k ⟨i, e, r⟩ => ⟨i, e, k _ _ r⟩)
  · rw [Bool.or_eq_false_iff] at hb
    have hL : isT "list" d = true := by have := hb.1; rw [Bool.not_eq_false'] at this; exact this
    obtain ⟨a, xs, ds, rfl, rfl, hx, hds⟩ := list_form hd hL
    have h30 : ¬ ds.length > 30 := of_decide_eq_false hb.2
    have lx := hds.length
    have due : dueOf ms main (.list ds) = (firstBad ms main ds).map fun i => (i : Int) := if_neg h30
    refine ⟨.ref a, rfl, a, xs, rfl, sq_of (e1 _ _ hx), for_it (walk_enum (K := K) (a := a) (xs := xs)) (fun i σ H' => ∃ y2 y3, σ = [some (.ref a), some (.bl main), some m, y2, y3] ∧ Ex H1 H' ∧ ∀ j, j < i → wrongAt ms main ds j = false)
      ⟨none, none, rfl, Ex.refl _, fun j hj => absurd hj (Nat.not_lt_zero _)⟩ (fun i σ H' _ hP => ?_) (fun i x σ H' H2 hi hP hY => ?_) (fun σ H' hP => ?_)⟩
    · obtain ⟨_, _, _, e, _⟩ := hP
      exact sq_of (e _ _ (e1 _ _ hx))
    · obtain ⟨y2, y3, rfl, e2, hw⟩ := hP
      obtain ⟨T', x0, y, rfl, zT, rfl, hx0, hy⟩ := hY
      have hx0' : V.int (i : Nat) = x0 := Option.some.inj hx0
      subst hx0'
      obtain ⟨dy, hdy, hDy⟩ := DtAll.get hds hy
      have sy : sm dy = true := smAll_get (sm_all hs) hdy
      have e3 := Ex.new (o := .tup [.int (i : Nat), y]) zT
      have eH := (e1.trans e2).trans e3
      refine pair_go upd_same ?_
      have gd0 : ds.getD i .none = dy := by rw [List.getD_eq_getElem?_getD, hdy]; rfl
      have hi' : i < ds.length := by omega
      have sml : ((i : Nat) : Int).natAbs.log2 < 1000 := by
        rw [Int.natAbs_natCast]
        exact Nat.lt_of_le_of_lt (Nat.log2_le_self i) (by omega)
      refine q_when (b := !fitsIn ms dy ((ds.length : Int) - i - 1)) (et_not (et_B (ev_call (ea_cons (ev_var rfl) (ea_cons (ev_is (ev_op (ev_op (ev_cb (ea_cons (ev_var rfl) ea_nil) (rc_lenL (sq_of (eH _ _ hx)))) (ev_var rfl) rv_I0) ev_c rv_I0) (by rw [lx])) (ea_cons (ev_var rfl) ea_nil))) (spv_before (Dt.ex eH hDy) sy (hm.ex eH))))) (fun hb2 H3 e4 => ?_) (fun hb2 H3 e4 => ?_)
      · have wr : wrongAt ms main ds i = true := by
          unfold wrongAt
          rw [gd0, hb2, Bool.true_or]
        exact mk_num ⟨.int (i : Nat), rfl, (i : Nat), rfl, sml, fun dx hz => up (by rw [due, first_at hi' wr hw]; rfl) (eH.trans e4) dx hz⟩ (fun k ⟨i, e, r⟩ => ⟨i, e, k _ _ r⟩)
      · have bf : fitsIn ms dy ((ds.length : Int) - i - 1) = true := by rw [Bool.not_eq_false'] at hb2; exact hb2
        have st : isStep dy = true := (Bool.and_eq_true_iff.mp (Bool.and_eq_true_iff.mp bf).1).1
        obtain ⟨z, zs, rfl⟩ := step_form st
        have hay : ∃ b, y = .ref b := by cases hDy; exact ⟨_, rfl⟩
        obtain ⟨b, rfl⟩ := hay
        obtain ⟨ys, hys, hzs⟩ := dt_tup hDy
        cases hzs with
        | cons h0 hr0 =>
          cases h0
          have eH4 := eH.trans e4
          refine s_when (b := main && (z == "export")) (et_and (et_is (et_test (ev_op (ev_var rfl) ev_c (rv_val fun H6 _ Q q => ⟨_, _, rfl, rfl, q⟩))) (by cases main <;> rfl)) fun _ => et_is (et_test (ev_op (ev_op (ev_var rfl) ev_c (rv_ixT (st_of (eH4 _ _ hys)) (atI_nat (j := 0) rfl))) ev_c (rv_eq rfl))) ?_) (fun hb3 H4 e5 => ?_) (fun hb3 H4 e5 => ?_)
          · by_cases hz : z = "export"
            · subst hz; rw [decide_eq_true rfl]; decide
            · rw [decide_eq_false (fun e => hz (V.str.inj e)), beq_eq_false_iff_ne.mpr hz]
          · have wr : wrongAt ms main ds i = true := by
              unfold wrongAt
              rw [gd0]
              show (_ || (main && (z == "export"))) = true
              rw [hb3, Bool.or_true]
            exact mk_num ⟨.int (i : Nat), rfl, (i : Nat), rfl, sml, fun dx hz => up (by rw [due, first_at hi' wr hw]; rfl) (eH4.trans e5) dx hz⟩ (fun k ⟨i, e, r⟩ => ⟨i, e, k _ _ r⟩)
          · refine ⟨_, _, rfl, ((e2.trans e3).trans e4).trans e5, fun j hj => ?_⟩
            by_cases hji : j = i
            · subst hji
              unfold wrongAt
              rw [gd0, bf]
              show (_ || (main && (z == "export"))) = false
              rw [hb3]; rfl
            · exact hw j (by omega)
    · obtain ⟨_, _, rfl, e2, hw⟩ := hP
      exact q (by rw [due, first_none fun j hj => hw j (by omega)]; rfl) H' (e1.trans e2)
end
end Cr
namespace Cr
open PySem PySem.Spec PyProof.Rows L2 Evl
abbrev sCheck : Stmt := topS 28
abbrev sBareW : Stmt := topS 16
abbrev sBareI : Stmt := topS 29
abbrev sBareP : Stmt := topS 30
abbrev nBareP : List Str := ["program", "step", "item"]
theorem scCheck : FnScope ["value", "is_main"] ["value", "is_main"] (defScope sCheck) := ⟨rfl, rfl, rfl, by decide +kernel, rfl, by decide +kernel, by decide +kernel⟩
theorem scBareW : FnScope ["word"] ["word"] (defScope sBareW) := ⟨rfl, rfl, rfl, by decide +kernel, rfl, by decide +kernel, by decide +kernel⟩
theorem scBareI : FnScope ["item"] ["item"] (defScope sBareI) := ⟨rfl, rfl, rfl, by decide +kernel, rfl, by decide +kernel, by decide +kernel⟩
theorem scBareP : FnScope nBareP ["program"] (defScope sBareP) := ⟨rfl, rfl, rfl, by decide +kernel, rfl, by decide +kernel, by decide +kernel⟩
/-- check_program, as it is called: one value, or is_main by its name -/
structure HasC (P : Program) (w : World) (K : PySem.W.Frag) (mg : Str → Option Value) (base : Heap) (k : Nat) (C : Addr) : Prop where
  ex : ∃ f fd, FnOk P w K mg base (L2.CX P w) k f fd ["value", "is_main"] (spCheck C) ∧ (∃ ds, Vals [.bl false] ds ∧ Binds K fd ["value", "is_main"] ds) ∧ (∃ g, KBn K fd ["value", "is_main"] 1 ["is_main"] g (fun vs zs => vs ++ zs)) ∧
    PySem.W.keepIn K (.ref f) = true ∧ mg "check_program" = some (.ref f)
/-! ### bare values -/
/-- texts and ints of a step -/
def bareV : V → Bool
  | .int _ => true
  | .str x => decide (x.length ≤ 1000)
  | _ => false
def spBareW : Sp := fun vs H Q _ => ∃ x : Str, vs = [.str x] ∧ x.length ≤ 1000 ∧ ∀ H', Ex H H' → Q (.str x) H'
def spBareI : Sp := fun vs H Q _ => ∃ v : V, vs = [v] ∧ bareV v = true ∧ ∀ H', Ex H H' → Q v H'
/-- steps stand at the places xs: tuples of the values vss -/
def Steps (H : Hp) : List V → List (List V) → Prop
  | [], [] => True
  | x :: xs, vs :: vss => (∃ t, x = .ref t ∧ H t = some (.tup vs)) ∧ Steps H xs vss
  | _, _ => False
/-- all tuples stand as they stood -/
def Tps (H H' : Hp) : Prop := ∀ a xs, H a = some (.tup xs) → H' a = some (.tup xs)
theorem Ex.tps {H H' : Hp} (e : Ex H H') : Tps H H' := fun a xs h => e a _ h
theorem Tps.refl (H : Hp) : Tps H H := fun _ _ h => h
theorem Tps.trans {H H1 H2 : Hp} (a : Tps H H1) (b : Tps H1 H2) : Tps H H2 := fun x o h => b x o (a x o h)
theorem Tps.upd {H H' : Hp} {p : Addr} {o : HO} (a : Tps H H') (h : ∀ xs, H' p ≠ some (.tup xs)) : Tps H (upd H' p o) := fun x xs z => by
  have y := a x xs z
  rw [upd_ne (fun e => h xs (by rw [← e]; exact y))]
  exact y
theorem Steps.tps {H H' : Hp} (e : Tps H H') : ∀ {xs : List V} {vss : List (List V)}, Steps H xs vss → Steps H' xs vss
  | [], [], _ => trivial
  | _ :: _, _ :: _, ⟨⟨t, h1, h2⟩, h⟩ => ⟨⟨t, h1, e _ _ h2⟩, Steps.tps e h⟩
theorem Steps.length {H : Hp} : ∀ {xs : List V} {vss : List (List V)}, Steps H xs vss → xs.length = vss.length
  | [], [], _ => rfl
  | _ :: _, _ :: _, ⟨_, h⟩ => by rw [List.length_cons, List.length_cons, Steps.length h]
theorem Steps.get {H : Hp} : ∀ {xs : List V} {vss : List (List V)} {i : Nat} {vs : List V}, Steps H xs vss → vss[i]? = some vs → ∃ t, xs[i]? = some (.ref t) ∧ H t = some (.tup vs)
  | [], [], _, _, _, h => by simp at h
  | _ :: _, _ :: _, 0, _, ⟨⟨t, h1, h2⟩, _⟩, h => by simp at h; subst h; exact ⟨t, by rw [h1]; rfl, h2⟩
  | _ :: _, _ :: _, i + 1, _, ⟨_, r⟩, h => by
    obtain ⟨t, a, b⟩ := Steps.get (i := i) r (by simpa using h)
    exact ⟨t, by simpa using a, b⟩
theorem Steps.snoc {H : Hp} {t : Addr} {vs : List V} (h : H t = some (.tup vs)) : ∀ {xs : List V} {vss : List (List V)}, Steps H xs vss → Steps H (xs ++ [.ref t]) (vss ++ [vs])
  | [], [], _ => ⟨⟨t, rfl, h⟩, trivial⟩
  | _ :: _, _ :: _, ⟨a, r⟩ => ⟨a, Steps.snoc h r⟩
theorem Steps.take {H : Hp} {xs : List V} {vss : List (List V)} (h : Steps H xs vss) : ∀ {i : Nat}, Steps H (xs.take i) (vss.take i) := by
  intro i
  induction i generalizing xs vss with
  | zero => rw [List.take_zero, List.take_zero]; trivial
  | succ i ih =>
    match xs, vss, h with
    | [], [], _ => trivial
    | _ :: _, _ :: _, ⟨a, r⟩ => exact ⟨a, ih r⟩
/-- the data of such steps -/
def stepsD (vss : List (List V)) : List PyData := vss.map fun vs => .tuple (vs.map flD)
theorem Steps.dt {H : Hp} : ∀ {xs : List V} {vss : List (List V)}, Steps H xs vss → (∀ vs ∈ vss, vs.all flatV = true) → DtAll H xs (stepsD vss)
  | [], [], _, _ => .nil
  | _ :: _, vs :: vss, ⟨⟨t, h1, h2⟩, r⟩, hf => by
    subst h1
    exact .cons (.tup h2 (dtAll_flat (hf vs List.mem_cons_self))) (Steps.dt r fun v hv => hf v (List.mem_cons_of_mem _ hv))
/-- bare_program: new tuples of the same values -/
def spBareP : Sp := fun vs H Q _ => ∃ (a : Addr) (xs : List V) (vss : List (List V)), vs = [.ref a] ∧ H a = some (.lst xs) ∧ Steps H xs vss ∧ vss.length ≤ 1000 ∧ (∀ vs ∈ vss, vs.all bareV = true ∧ 1 ≤ vs.length ∧ vs.length ≤ 10) ∧
  ∀ l ys H', H l = none → Ex H H' → H' l = some (.lst ys) → Steps H' ys vss → Q (.ref l) H'
/-- the scope of a comprehension that is returned -/
def compScope : List Stmt → Scope
  | [.Return (some (.ListComp _ _ sc _)) _] => sc
  | _ => { kind := .function, names := [], isGenerator := false, isCoroutine := false, more := [] }
def rTupleOf (K : PySem.W.Frag) : List V → Hp → VK → Prop := fun xs H Q => ∃ p ys, xs = [.ref p] ∧ ((SqL K H p ys ∧ ∀ l, H l = none → Q (.ref l) (upd H l (.tup ys))) ∨ (SqT K H p ys ∧ Q (.ref p) H))
theorem eu_tupleOf {K : PySem.W.Frag} {te : TE} {σ : L2.St} {H : Hp} {xs : List V} (h : EvL te σ H xs) : EvU (tCB (rTupleOf K) (tCons te tNil)) σ H xs := fun H1 e Q q =>
  h H1 e _ fun p H2 _ e2 h2 => ⟨p, xs, rfl, .inl ⟨sq_of h2, fun l hl => q l _ (fresh_back e2 hl) (e2.trans (Ex.new hl)) upd_same⟩⟩
theorem join_one (x : Str) : Txt.join ("" : Str) [x] = x := by
  rw [TL.join_eq]
  rfl
section
variable {P : Program} {w : World} {K : PySem.W.Frag} {mg : Str → Option Value} {base : Heap}
theorem ok_check {f C : Addr} {fd : FuncData} {k : Nat} (F : Fun K "check_program" "check_program" sCheck f fd) (h1 : HasE P w K mg base k "check_steps" ["value", "is_main", "modules"] (spSteps C)) : FnOk P w K mg base (L2.CX P w) (k + 1) f fd ["value", "is_main"] (spCheck C) := by
  obtain ⟨f1, d1, G1, b1, k1, g1⟩ := h1.ex
  refine F.okX scCheck (fun vs H Q E h => by obtain ⟨_, _, _, rfl, _⟩ := h; rfl) (fun cdv A outer s H vs Q E hr h => ?_)
  obtain ⟨v, d, main, rfl, hd, hs, q, qe⟩ := h
  refine ⟨_, pss_one (ps_expr (pe_call (E := E) G1 hr (by rfl) g1 k1 b1 .nil (passes_call (takes_of rfl rfl rfl rfl) fun _ _ _ _ h => h) (pa_cons (pv 0) (pa_cons (pv 1) (pa_cons pe_non pa_nil))))), ?_⟩
  exact ⟨v, rfl, .bl main, rfl, v, d, main, .non, none, rfl, hd, hs, rfl, q, qe⟩
theorem ok_bareW {f : Addr} {fd : FuncData} {k : Nat} (F : Fun K "bare_word" "bare_word" sBareW f fd) : FnOk P w K mg base CX0 (k + 1) f fd ["word"] spBareW := by
  refine F.ok scBareW (fun vs H Q E h => by obtain ⟨_, rfl, _⟩ := h; rfl) (fun cdv A outer s H vs Q E hr h => ?_)
  obtain ⟨x, rfl, hx, q⟩ := h
  refine ⟨_, pss_one (ps_ret (pe_join pe_str (pe_lst (pa_cons (pv 0) pa_nil)))), ?_⟩
  refine ⟨⟨_, rfl⟩, _, rfl, by show 1 ≤ sizeLine; decide, fun l hl => ⟨_, l, [x], rfl, rfl, .inl (sq_of upd_same), ?_, ?_⟩⟩
  · have e0 : (("" : Str)).length = 0 := by decide +kernel
    simp [e0]
    omega
  · have g := q _ (Ex.new (o := .lst [.str x]) hl)
    rw [← join_one x] at g
    exact g
theorem ok_bareI {f : Addr} {fd : FuncData} {k : Nat} (F : Fun K "bare_item" "bare_item" sBareI f fd) (B : Blt mg) (h1 : HasO P w K mg base k "bare_word" ["word"] spBareW) : FnOk P w K mg base CX0 (k + 1) f fd ["item"] spBareI := by
  obtain ⟨f1, d1, G1, b1, k1, g1⟩ := h1.ex
  refine F.ok scBareI (fun vs H Q E h => by obtain ⟨_, rfl, _⟩ := h; rfl) (fun cdv A outer s H vs Q E hr h => ?_)
  obtain ⟨v, rfl, hv, q⟩ := h
  refine ⟨_, pss_one (ps_ret (pe_ifExp (pt_val (pe_callB call_isi (by rfl) B.isi bIsi (pa_cons (pv 0) (pa_cons (pe_bltn (v := .ty "str") (by rfl) B.str bStr rfl) pa_nil)))) (pe_call G1 hr (by rfl) g1 k1 b1 .nil pass0 (pa_cons (pv 0) pa_nil))
    (pe_callTy call_int1 (by rfl) B.int bInt (pa_cons (pv 0) pa_nil)))), ?_⟩
  cases v with
  | int i =>
    have isS := rc_isi (K := K) (H := H) (T := "str") (Dt.int i) memS
    exact s_ret (ev_if (b := false) (et_B (ev_cb (ea_cons (ev_var rfl) (ea_cons ev_c ea_nil)) isS)) (fun z => nomatch z) fun _ => ev_cb (ea_cons (ev_var rfl) ea_nil) (fun H1 _ Q q => .inl ⟨i, rfl, q H1 (Ex.refl H1)⟩)) q
  | str x =>
    have isS := rc_isi (K := K) (H := H) (T := "str") (Dt.str x) memS
    exact s_ret (ev_if (b := true) (et_B (ev_cb (ea_cons (ev_var rfl) (ea_cons ev_c ea_nil)) isS)) (fun _ => ev_call (ea_cons (ev_var rfl) ea_nil) fun H1 e1 Q q E => ⟨x, rfl, of_decide_eq_true hv, q⟩) fun z => nomatch z) q
  | _ => exact nomatch hv
theorem ok_bareP {f : Addr} {fd : FuncData} {k : Nat} (F : Fun K "bare_program" "bare_program" sBareP f fd) (B : Blt mg) (h1 : HasO P w K mg base k "bare_item" ["item"] spBareI) : FnOk P w K mg base CX0 (k + 1) f fd ["program"] spBareP := by
  obtain ⟨f1, d1, G1, b1, k1, g1⟩ := h1.ex
  refine F.ok scBareP (fun vs H Q E h => by obtain ⟨_, _, _, rfl, _⟩ := h; rfl) (fun cdv A outer s H vs Q E hr h => ?_)
  obtain ⟨a, xs, vss, rfl, ha, hS, hl, hb, q⟩ := h
  refine ⟨_, pss_one (ps_ret (pe_lc (own := [("step", 1)]) (g := gName 1) (tt := tYes) (te := tCB (rTupleOf K) (tCons (tLc (iTup K (tVar 1)) (gName 2) tYes (tCall spBareI [] E0 (tCons (tVar 2) tNil)) [2]) tNil)) rfl scBareP.nd (pi_list (pv 0)) (blkOk_by (own := [("step", 1)]) (N := nBareP) (sc := defScope sBareP) (by decide +kernel))
      (fun _ _ _ _ _ => pg_name (i := 1) scBareP.nd rfl (Or.inl rfl)) (fun _ _ _ _ _ => pts_nil)
      (fun _ _ _ _ _ => by exact pe_callTy call_tuple_of (by rfl) B.tuple bTuple (pa_cons (pe_lc (own := [("item", 2)]) (g := gName 2) (tt := tYes) rfl scBareP.nd (pi_tup (pv 1)) (blkOk_by (own := [("item", 2)]) (N := nBareP) (sc := compScope (defBody sBareP)) (by decide +kernel))
        (fun _ _ _ _ _ => pg_name (i := 2) scBareP.nd rfl (Or.inl rfl)) (fun _ _ _ _ _ => pts_nil) (fun _ _ _ _ _ => pe_call G1 hr (by rfl) g1 k1 b1 .nil pass0 (pa_cons (pv 2) pa_nil))) pa_nil)))), ?_⟩
  refine ⟨.ref a, rfl, a, rfl, ⟨_, sq_of ha⟩, fun D hD => lc_list (K := K) (a := a) (xs := xs) (fun i H' => ∃ ys, H' D = some (.lst ys) ∧ Steps H' ys (vss.take i) ∧ Ex H H') ⟨[], upd_same, by rw [List.take_zero]; trivial, Ex.new hD⟩
    (fun i H' _ hP => by obtain ⟨_, _, _, e⟩ := hP; exact sq_of (e _ _ ha)) (fun i x H' hi hP => ⟨rfl, ?_⟩) (fun H' hP => by
      obtain ⟨ys, h1, h2, e⟩ := hP
      rw [hS.length, List.take_length] at h2
      exact q D ys H' hD e h1 h2)⟩
  obtain ⟨ys, h1, h2, e⟩ := hP
  have hi2 : i < vss.length := by
    have := (List.getElem?_eq_some_iff.mp hi).1
    rw [hS.length] at this
    exact this
  obtain ⟨t, ht, hT⟩ := hS.get (List.getElem?_eq_getElem hi2)
  rw [hi] at ht
  cases ht
  obtain ⟨hbv, hb1, hb2⟩ := hb _ (List.getElem_mem hi2)
  have inner : EvL (tLc (iTup K (tVar 1)) (gName 2) tYes (tCall spBareI [] E0 (tCons (tVar 2) tNil)) [2]) [some (.ref a), some (.ref t), none] H' vss[i] := by
    have lc := el_lcW (wi := iTup K (tVar 1)) (g := gName 2) (tt := tYes) (te := tCall spBareI [] E0 (tCons (tVar 2) tNil)) (vs := [2]) (σ := [some (.ref a), some (.ref t), none]) (H := H') (n := vss[i].length) (Y := YAt vss[i]) (fun _ => true) (fun j => vss[i].getD j .non) (by omega)
      (fun H5 e5 R r => ⟨.ref t, rfl, t, rfl, ⟨_, st_of ((e.trans e5) _ _ hT)⟩, r H5 _ _ walk_tup (fun H7 H8 e7 z => ex_t e7 z) (Ex.refl H5) (st_of ((e.trans e5) _ _ hT))⟩)
      (fun j y H5 H6 e5 hj hy => by
        obtain ⟨rfl, hyj⟩ := hy
        have ey : vss[i].getD j .non = y := by rw [List.getD_eq_getElem?_getD, hyj]; rfl
        refine ⟨Ex.refl _, [some (.ref a), some (.ref t), some y], rfl, fun R r => r, fun H7 _ Q q => q H7 (Ex.refl H7), fun _ => ?_⟩
        rw [ey]
        exact ev_call (ea_cons (ev_var rfl) ea_nil) fun H7 e7 Q q E => ⟨y, rfl, List.all_eq_true.mp hbv y (List.mem_of_getElem? hyj), q⟩)
    have eg : given vss[i].length (fun _ => true) (fun j => vss[i].getD j .non) = vss[i] := by
      rw [given_all]
      refine List.ext_getElem? fun j => ?_
      by_cases hj : j < vss[i].length
      · rw [List.getElem?_map, List.getElem?_range hj, List.getElem?_eq_getElem hj]
        simp [hj]
      · rw [List.getElem?_eq_none (by rw [List.length_map, List.length_range]; omega), List.getElem?_eq_none (by omega)]
    rw [eg] at lc
    exact lc
  show tCB (rTupleOf K) (tCons (tLc (iTup K (tVar 1)) (gName 2) tYes (tCall spBareI [] E0 (tCons (tVar 2) tNil)) [2]) tNil) [some (.ref a), some (.ref t), none] H' _
  refine eu_tupleOf inner H' (Ex.refl H') _ fun l H3 hl e3 h3 => ?_
  have hD3 := e3 _ _ h1
  have lD : D ≠ l := ne_of_none h1 hl
  refine ⟨ys, hD3, ?_, ys ++ [.ref l], upd_same, ?_, Ex.mut (e.trans e3) hD⟩
  · have := h2.length
    rw [List.length_take] at this
    exact sz_lt (by omega)
  · have tp : Tps H' (upd H3 D (.lst (ys ++ [.ref l]))) := (Ex.tps e3).upd fun xs z => by
      rw [hD3] at z
      cases z
    rw [← List.take_append_getElem hi2]
    exact (h2.tps tp).snoc (by rw [upd_ne lD.symm]; exact h3)
end
end Cr
/-! frames: what they look like -/
namespace Cr
open PySem PySem.Spec PyProof.Rows L2 Evl
/-! ### four variables -/
structure M4 where
  a : Int
  b : Int
  c : Int
  d : Int
def M4.kv (m : M4) : List (Key × V) := [(.inr "a", .int m.a), (.inr "b", .int m.b), (.inr "c", .int m.c), (.inr "d", .int m.d)]
def M4.get (m : M4) (x : Str) : Int := if x = "a" then m.a else if x = "b" then m.b else if x = "c" then m.c else m.d
def M4.set (m : M4) (x : Str) (v : Int) : M4 := if x = "a" then { m with a := v } else if x = "b" then { m with b := v } else if x = "c" then { m with c := v } else { m with d := v }
def M4.zero : M4 := ⟨0, 0, 0, 0⟩
theorem m4_val (m : M4) {x : Str} (h : isVar (.str x) = true) : valV m.kv (.inr x) = some (.int (m.get x)) := by
  rcases var_cases h with rfl | rfl | rfl | rfl <;> rfl
theorem m4_put (m : M4) {x : Str} (h : isVar (.str x) = true) (v : Int) : putK m.kv (.inr x) (.int v) = (m.set x v).kv := by
  rcases var_cases h with rfl | rfl | rfl | rfl <;> rfl
def M4.all (m : M4) (p : Int → Prop) : Prop := p m.a ∧ p m.b ∧ p m.c ∧ p m.d
def M4.dat (m : M4) : List (PyData × PyData) := [(.str "a", .int m.a), (.str "b", .int m.b), (.str "c", .int m.c), (.str "d", .int m.d)]
theorem M4.dt {H : Hp} (m : M4) : DtKv H m.kv m.dat := .cons (.int _) (.cons (.int _) (.cons (.int _) (.cons (.int _) .nil)))
/-! ### what else stands as it stood -/
def But (l : List Addr) (H H' : Hp) : Prop := ∀ a o, a ∉ l → H a = some o → H' a = some o
theorem But.refl {l : List Addr} (H : Hp) : But l H H := fun _ _ _ h => h
theorem But.trans {l : List Addr} {H H1 H2 : Hp} (a : But l H H1) (b : But l H1 H2) : But l H H2 := fun x o n h => b x o n (a x o n h)
theorem But.of {l : List Addr} {H H' : Hp} (e : Ex H H') : But l H H' := fun a o _ h => e a o h
theorem But.upd {l : List Addr} {H H' : Hp} {p : Addr} {o : HO} (h : But l H H') (hp : p ∈ l) : But l H (upd H' p o) := fun a u n z => by
  rw [upd_ne (fun e => n (by rw [e]; exact hp))]
  exact h a u n z
theorem But.mono {l l' : List Addr} {H H' : Hp} (h : But l H H') (s : ∀ a ∈ l, a ∈ l') : But l' H H' := fun a o n z => h a o (fun y => n (s a y)) z
/-! ### the frame -/
/-- its addresses: its own dict, steps, memory, visited -/
structure FrA where
  dx : Addr
  aS : Addr
  aM : Addr
  aV : Addr
def fl (A : FrA) (pos : Nat) : List (Str × V) := [("steps", .ref A.aS), ("position", .int (pos : Int)), ("memory", .ref A.aM), ("visited", .ref A.aV)]
theorem fl_steps (A : FrA) (pos : Nat) : (fl A pos).lookup ("steps" : Str) = some (.ref A.aS) := by rfl
theorem fl_pos (A : FrA) (pos : Nat) : (fl A pos).lookup ("position" : Str) = some (.int (pos : Int)) := by rfl
theorem fl_mem (A : FrA) (pos : Nat) : (fl A pos).lookup ("memory" : Str) = some (.ref A.aM) := by rfl
theorem fl_vis (A : FrA) (pos : Nat) : (fl A pos).lookup ("visited" : Str) = some (.ref A.aV) := by rfl
theorem fl_put (A : FrA) (pos : Nat) (n : Nat) : putF "position" (.int (n : Int)) (fl A pos) = fl A n := by rfl
def own (p : Addr) (A : FrA) : List Addr := [p, A.aM, A.aV]
structure FrameAt (C : Addr) (H : Hp) (p : Addr) (A : FrA) (vss : List (List V)) (pos : Nat) (m : M4) (n : Nat) : Prop where
  ob : H p = some (.ins C A.dx (fl A pos))
  st : ∃ xs, H A.aS = some (.lst xs) ∧ Steps H xs vss
  me : H A.aM = some (.dK m.kv)
  vi : ∃ vis, H A.aV = some (.lst vis) ∧ vis.length = n
  sv : A.aS ≠ A.aV
section
variable {C : Addr} {H H' : Hp} {p : Addr} {A : FrA} {vss : List (List V)} {pos : Nat} {m : M4} {n : Nat}
theorem FrameAt.ex (h : FrameAt C H p A vss pos m n) (e : Ex H H') : FrameAt C H' p A vss pos m n := by
  obtain ⟨xs, h1, h2⟩ := h.st
  obtain ⟨vis, h3, h4⟩ := h.vi
  exact ⟨e _ _ h.ob, ⟨xs, e _ _ h1, h2.tps (Ex.tps e)⟩, e _ _ h.me, ⟨vis, e _ _ h3, h4⟩, h.sv⟩
/-- none of its own addresses is changed -/
theorem FrameAt.but {l : List Addr} (h : FrameAt C H p A vss pos m n) (e : But l H H') (t : Tps H H') (h1 : p ∉ l) (h2 : A.aS ∉ l) (h3 : A.aM ∉ l) (h4 : A.aV ∉ l) : FrameAt C H' p A vss pos m n := by
  obtain ⟨xs, g1, g2⟩ := h.st
  obtain ⟨vis, g3, g4⟩ := h.vi
  exact ⟨e _ _ h1 h.ob, ⟨xs, e _ _ h2 g1, g2.tps t⟩, e _ _ h3 h.me, ⟨vis, e _ _ h4 g3, g4⟩, h.sv⟩
theorem FrameAt.pM (h : FrameAt C H p A vss pos m n) : p ≠ A.aM := fun e => by have z := h.ob; rw [e, h.me] at z; cases z
theorem FrameAt.pS (h : FrameAt C H p A vss pos m n) : p ≠ A.aS := fun e => by obtain ⟨xs, g1, _⟩ := h.st; have z := h.ob; rw [e, g1] at z; cases z
theorem FrameAt.pV (h : FrameAt C H p A vss pos m n) : p ≠ A.aV := fun e => by obtain ⟨vis, g3, _⟩ := h.vi; have z := h.ob; rw [e, g3] at z; cases z
theorem FrameAt.MS (h : FrameAt C H p A vss pos m n) : A.aM ≠ A.aS := fun e => by obtain ⟨xs, g1, _⟩ := h.st; have z := h.me; rw [e, g1] at z; cases z
theorem FrameAt.MV (h : FrameAt C H p A vss pos m n) : A.aM ≠ A.aV := fun e => by obtain ⟨vis, g3, _⟩ := h.vi; have z := h.me; rw [e, g3] at z; cases z
/-- the memory is changed -/
theorem FrameAt.setM (h : FrameAt C H p A vss pos m n) (m' : M4) : FrameAt C (upd H A.aM (.dK m'.kv)) p A vss pos m' n := by
  obtain ⟨xs, g1, g2⟩ := h.st
  obtain ⟨vis, g3, g4⟩ := h.vi
  refine ⟨by rw [upd_ne h.pM]; exact h.ob, ⟨xs, by rw [upd_ne h.MS.symm]; exact g1, g2.tps ((Tps.refl H).upd fun ys z => ?_)⟩, upd_same, ⟨vis, by rw [upd_ne h.MV.symm]; exact g3, g4⟩, h.sv⟩
  rw [h.me] at z
  cases z
theorem FrameAt.setP (h : FrameAt C H p A vss pos m n) (k : Nat) : FrameAt C (upd H p (.ins C A.dx (fl A k))) p A vss k m n := by
  obtain ⟨xs, g1, g2⟩ := h.st
  obtain ⟨vis, g3, g4⟩ := h.vi
  refine ⟨upd_same, ⟨xs, by rw [upd_ne h.pS.symm]; exact g1, g2.tps ((Tps.refl H).upd fun ys z => ?_)⟩, by rw [upd_ne h.pM.symm]; exact h.me, ⟨vis, by rw [upd_ne h.pV.symm]; exact g3, g4⟩, h.sv⟩
  rw [h.ob] at z
  cases z
theorem FrameAt.setV (h : FrameAt C H p A vss pos m n) (vis : List V) : FrameAt C (upd H A.aV (.lst vis)) p A vss pos m vis.length := by
  obtain ⟨xs, g1, g2⟩ := h.st
  obtain ⟨vis', g3, g4⟩ := h.vi
  refine ⟨by rw [upd_ne h.pV]; exact h.ob, ⟨xs, by rw [upd_ne h.sv]; exact g1, g2.tps ((Tps.refl H).upd fun ys z => ?_)⟩, by rw [upd_ne h.MV]; exact h.me, ⟨vis, upd_same, rfl⟩, h.sv⟩
  rw [g3] at z
  cases z
theorem tps_own {l : List Addr} (e : But l H H') (hl : ∀ a ∈ l, ∀ xs, H a ≠ some (.tup xs)) : Tps H H' := fun a xs z => e a _ (fun y => hl a y xs z) z
theorem FrameAt.tps {H' : Hp} (h : FrameAt C H p A vss pos m n) (e : But (own p A) H H') : Tps H H' := tps_own e fun a ha xs z => by
  obtain ⟨vis', g3, g4⟩ := h.vi
  simp only [own, List.mem_cons, List.not_mem_nil, or_false] at ha
  rcases ha with rfl | rfl | rfl
  · rw [h.ob] at z; cases z
  · rw [h.me] at z; cases z
  · rw [g3] at z; cases z
end
/-! ### steps as data -/
def dV : PyData → V
  | .int i => .int i
  | .str x => .str x
  | .bool b => .bl b
  | _ => .non
def bare8 : V → Bool
  | .int _ => true
  | .str x => decide (x.length ≤ 8) && x.cps.toList.all fun c => decide (c < 128)
  | _ => false
theorem bare8_str {x : Str} (h : bare8 (.str x) = true) : x.length ≤ 8 ∧ ∀ c ∈ x.cps.toList, c < 128 := by
  have h' : (decide (x.length ≤ 8) && x.cps.toList.all fun c => decide (c < 128)) = true := h
  obtain ⟨h1, h2⟩ := Bool.and_eq_true_iff.mp h'
  exact ⟨of_decide_eq_true h1, fun c hc => of_decide_eq_true (List.all_eq_true.mp h2 c hc)⟩
theorem bare8_bare {v : V} (h : bare8 v = true) : bareV v = true := by
  cases v with
  | str x =>
    have z : x.length ≤ 8 := (bare8_str h).1
    exact decide_eq_true (by omega)
  | int i => rfl
  | _ => exact nomatch h
theorem bare8_flat {v : V} (h : bare8 v = true) : flatV v = true := by
  cases v <;> first | rfl | exact nomatch h
/-- values of a step -/
structure StepV (vs : List V) : Prop where
  bare : vs.all bare8 = true
  step : isStep (.tuple (vs.map flD)) = true
  len1 : 1 ≤ vs.length
  len4 : vs.length ≤ 4
theorem item_bare {d : PyData} {k : Str} (h : isItem d k = true) : bare8 (dV d) = true ∧ flD (dV d) = d := by
  have vr : ∀ {d : PyData}, isVar d = true → bare8 (dV d) = true ∧ flD (dV d) = d := fun {d} h => by
    cases d with
    | str x => rcases var_cases h with rfl | rfl | rfl | rfl <;> exact ⟨by decide +kernel, rfl⟩
    | _ => exact nomatch h
  have nm : ∀ {d : PyData}, isName d = true → bare8 (dV d) = true ∧ flD (dV d) = d := fun {d} h => by
    cases d with
    | str x =>
      have z : isNameS x = true := h
      unfold isNameS at z
      simp only [Bool.and_eq_true, decide_eq_true_eq] at z
      refine ⟨?_, rfl⟩
      show (decide (x.length ≤ 8) && x.cps.toList.all fun c => decide (c < 128)) = true
      rw [decide_eq_true (show x.length ≤ 8 by omega), Bool.true_and]
      refine List.all_eq_true.mpr fun c hc => ?_
      have y := List.all_eq_true.mp z.2 c hc
      unfold isLow at y
      simp only [Bool.and_eq_true, decide_eq_true_eq] at y
      exact decide_eq_true (by omega)
    | _ => exact nomatch h
  have nt : ∀ {d : PyData}, isInteger d = true → bare8 (dV d) = true ∧ flD (dV d) = d := fun {d} h => by
    cases d with
    | int i => exact ⟨rfl, rfl⟩
    | _ => exact nomatch h
  unfold isItem at h
  split at h
  · exact vr h
  split at h
  · exact nt h
  split at h
  · exact nt (Bool.and_eq_true_iff.mp h).1
  · exact nm h
theorem kind_bare {z : Str} {ks : List Str} (h : shapeOf z = some ks) : bare8 (.str z) = true ∧ ks.length ≤ 3 := by
  unfold shapeOf at h
  repeat' split at h
  all_goals first
    | (rename_i e; subst e; cases h; exact ⟨by decide +kernel, by decide⟩)
    | cases h
theorem step_bare {d : PyData} (h : isStep d = true) : ∃ vs, d = .tuple (vs.map flD) ∧ StepV vs := by
  obtain ⟨z, ds, rfl⟩ := step_form h
  obtain ⟨ks, hk⟩ : ∃ ks, shapeOf z = some ks := by
    cases hs : shapeOf z with
    | some ks => exact ⟨ks, rfl⟩
    | none =>
      have zz : isStep (.tuple (.str z :: ds)) = false := by
        show (match shapeOf z with | some ks => _ | none => false) = false
        rw [hs]
      rw [zz] at h
      cases h
  have h0 := h
  rw [isStep_eq hk] at h
  obtain ⟨h1, h2⟩ := Bool.and_eq_true_iff.mp h
  have hl : ds.length = ks.length := of_decide_eq_true h1
  obtain ⟨b1, b2⟩ := kind_bare hk
  have each : ∀ d ∈ ds, bare8 (dV d) = true ∧ flD (dV d) = d := fun d hd => by
    obtain ⟨i, hi, rfl⟩ := List.mem_iff_getElem.mp hd
    have z := List.all_eq_true.mp h2 (isItem (ds.getD i .none) (ks.getD i "")) (List.mem_map.mpr ⟨i, List.mem_range.mpr (by omega), rfl⟩)
    rw [List.getD_eq_getElem?_getD, List.getElem?_eq_getElem hi] at z
    exact item_bare z
  have em : (ds.map dV).map flD = ds := by
    rw [List.map_map]
    exact (List.map_congr_left (g := id) fun d hd => (each d hd).2).trans (List.map_id _)
  have e : PyData.tuple (.str z :: ds) = .tuple ((V.str z :: ds.map dV).map flD) := by
    rw [List.map_cons, em]
    rfl
  refine ⟨.str z :: ds.map dV, e, ?_, ?_, ?_, ?_⟩
  · rw [List.all_cons, b1, Bool.true_and, List.all_map]
    exact List.all_eq_true.mpr fun d hd => (each d hd).1
  · rw [← e]; exact h0
  · rw [List.length_cons]; omega
  · rw [List.length_cons, List.length_map]; omega
theorem dt_bare {H : Hp} : ∀ {xs vs : List V}, DtAll H xs (vs.map flD) → vs.all bare8 = true → xs = vs
  | [], [], _, _ => rfl
  | x :: xs, v :: vs, h, hb => by
    rw [List.all_cons, Bool.and_eq_true] at hb
    have h' : DtAll H (x :: xs) (flD v :: vs.map flD) := h
    cases h' with
    | cons h1 h2 =>
      have e2 := dt_bare h2 hb.2
      have e1 : x = v := by
        cases v with
        | int i => cases h1; rfl
        | str z => cases h1; rfl
        | _ => exact nomatch hb.1
      rw [e1, e2]
theorem steps_of {H : Hp} : ∀ {xs : List V} {ds : List PyData}, DtAll H xs ds → (∀ d ∈ ds, isStep d = true) → ∃ vss, ds = stepsD vss ∧ Steps H xs vss ∧ ∀ vs ∈ vss, StepV vs
  | _, _, .nil, _ => ⟨[], rfl, trivial, fun _ h => nomatch h⟩
  | _, _, .cons h1 h2, hs => by
    obtain ⟨vss, e, st, g⟩ := steps_of h2 fun d hd => hs d (List.mem_cons_of_mem _ hd)
    obtain ⟨vs, rfl, sv⟩ := step_bare (hs _ List.mem_cons_self)
    cases h1 with
    | @tup t zs _ ht hz =>
      have ez := dt_bare hz sv.bare
      subst ez
      exact ⟨zs :: vss, by rw [e]; rfl, ⟨⟨t, rfl, ht⟩, st⟩, fun v hv => by
        rcases List.mem_cons.mp hv with z | z
        · rw [z]; exact sv
        · exact g v z⟩
theorem due_none {ms : Option (List V)} {main : Bool} {d : PyData} (h : dueOf ms main d = none) : ∃ ds, d = .list ds ∧ ds.length ≤ 30 ∧ ∀ x ∈ ds, isStep x = true := by
  cases d with
  | list ds =>
    have h' : (if ds.length > 30 then some (-1) else (firstBad ms main ds).map fun i => (i : Int)) = none := h
    by_cases hl : ds.length > 30
    · rw [if_pos hl] at h'; cases h'
    · rw [if_neg hl] at h'
      refine ⟨ds, rfl, by omega, fun x hx => ?_⟩
      obtain ⟨i, hi, rfl⟩ := List.mem_iff_getElem.mp hx
      have hf : firstBad ms main ds = none := by
        cases hf : firstBad ms main ds with
        | none => rfl
        | some j => rw [hf] at h'; cases h'
      unfold firstBad at hf
      have hw := List.find?_eq_none.mp hf i (List.mem_range.mpr hi)
      have eg : ds.getD i .none = ds[i] := by rw [List.getD_eq_getElem?_getD, List.getElem?_eq_getElem hi]; rfl
      unfold wrongAt fitsIn isBefore at hw
      rw [eg] at hw
      cases hst : isStep ds[i] with
      | true => rfl
      | false => rw [hst] at hw; exact absurd rfl hw
  | _ => exact nomatch h
theorem due_good {ds : List PyData} (hl : ds.length ≤ 30) (h : ∀ (i : Nat) (x : PyData), ds[i]? = some x → isBefore x ((ds.length : Int) - i - 1) = true) : dueOf none false (.list ds) = none := by
  show (if ds.length > 30 then some (-1) else (firstBad none false ds).map fun i => (i : Int)) = none
  rw [if_neg (by omega), first_none fun j hj => ?_]
  · rfl
  · unfold wrongAt
    have eg : ds.getD j .none = ds[j] := by rw [List.getD_eq_getElem?_getD, List.getElem?_eq_getElem hj]; rfl
    rw [eg]
    have z := h j _ (List.getElem?_eq_getElem hj)
    show (!fitsIn none ds[j] ((ds.length : Int) - j - 1) || (false && isExport ds[j])) = false
    unfold fitsIn
    rw [z]
    rfl
end Cr
/-! frames: the methods -/
namespace Cr
open PySem PySem.Spec PyProof.Rows L2 Evl
abbrev sFInit : Stmt := inClass (topS 33) 0
abbrev sFNext : Stmt := inClass (topS 33) 3
abbrev sFVars : Stmt := inClass (topS 33) 5
abbrev sFOver : Stmt := inClass (topS 33) 6
abbrev sFMove : Stmt := inClass (topS 33) 7
abbrev sFRun : Stmt := inClass (topS 33) 8
abbrev nFInit : List Str := ["self", "program", "variable"]
abbrev nFRun : List Str := ["self", "step", "kind", "variable", "item", "length"]
theorem scFInit : FnScope nFInit ["self", "program"] (defScope sFInit) := ⟨rfl, rfl, rfl, by decide +kernel, rfl, by decide +kernel, by decide +kernel⟩
theorem scFNext : FnScope ["self"] ["self"] (defScope sFNext) := ⟨rfl, rfl, rfl, by decide +kernel, rfl, by decide +kernel, by decide +kernel⟩
theorem scFVars : FnScope ["self"] ["self"] (defScope sFVars) := ⟨rfl, rfl, rfl, by decide +kernel, rfl, by decide +kernel, by decide +kernel⟩
theorem scFOver : FnScope ["self"] ["self"] (defScope sFOver) := ⟨rfl, rfl, rfl, by decide +kernel, rfl, by decide +kernel, by decide +kernel⟩
theorem scFMove : FnScope ["self", "length"] ["self", "length"] (defScope sFMove) := ⟨rfl, rfl, rfl, by decide +kernel, rfl, by decide +kernel, by decide +kernel⟩
theorem scFRun : FnScope nFRun ["self"] (defScope sFRun) := ⟨rfl, rfl, rfl, by decide +kernel, rfl, by decide +kernel, by decide +kernel⟩
/-- what the top says of the class -/
structure FrC (K : PySem.W.Frag) (mg : Str → Option Value) (C : Addr) : Prop where
  cl : Cls K C
  nS : NoAttr K C "steps"
  nP : NoAttr K C "position"
  nM : NoAttr K C "memory"
  nV : NoAttr K C "visited"
  at_ : mg "Frame" = some (.ref C)
/-- a method as it is called -/
structure HasM (P : Program) (w : World) (K : PySem.W.Frag) (mg : Str → Option Value) (base : Heap) (CX : CXT) (k : Nat) (C : Addr) (m : Str) (ps : List Str) (sp : Sp) : Prop where
  ex : ∃ f fd, FnOk P w K mg base CX k f fd ps sp ∧ Binds K fd ps [] ∧ Meth K C m f
theorem HasM.up {P : Program} {w : World} {K : PySem.W.Frag} {mg : Str → Option Value} {base : Heap} {CX : CXT} {C : Addr} {m : Str} {ps : List Str} {sp : Sp} {j k : Nat} (h : HasM P w K mg base CX j C m ps sp) (le : j ≤ k) : HasM P w K mg base CX k C m ps sp := by
  obtain ⟨f, fd, G, b, kp⟩ := h.ex
  exact ⟨⟨f, fd, fnUp G le, b, kp⟩⟩
/-- one that only looks: the answer by the frame -/
def spLook (C : Addr) (ans : List (List V) → Nat → M4 → Nat → V) : Sp := fun vs H Q _ => ∃ (p : Addr) (A : FrA) (vss : List (List V)) (pos : Nat) (m : M4) (n : Nat), vs = [.ref p] ∧ FrameAt C H p A vss pos m n ∧ (vss.length ≤ 1000 ∧ n ≤ 1000) ∧ ∀ H', Ex H H' → Q (ans vss pos m n) H'
def spNext (C : Addr) : Sp := fun vs H Q _ => ∃ (p : Addr) (A : FrA) (vss : List (List V)) (pos : Nat) (m : M4) (n : Nat), vs = [.ref p] ∧ FrameAt C H p A vss pos m n ∧ (vss.length ≤ 1000 ∧ n ≤ 1000) ∧ pos ≤ vss.length ∧
  ∀ v H', Ex H H' → (v = .non ∧ pos = vss.length ∨ ∃ t us, v = .ref t ∧ vss[pos]? = some us ∧ H' t = some (.tup us)) → Q v H'
def spVars (C : Addr) : Sp := fun vs H Q _ => ∃ (p : Addr) (A : FrA) (vss : List (List V)) (pos : Nat) (m : M4) (n : Nat), vs = [.ref p] ∧ FrameAt C H p A vss pos m n ∧ ∀ d H', H d = none → Ex H H' → H' d = some (.dK m.kv) → Q (.ref d) H'
def spMove (C : Addr) : Sp := fun vs H Q _ => ∃ (p : Addr) (A : FrA) (vss : List (List V)) (pos : Nat) (m : M4) (n : Nat) (l : Nat), vs = [.ref p, .int (l : Int)] ∧ FrameAt C H p A vss pos m n ∧ n ≤ 1000 ∧ ∀ H', FrameAt C H' p A vss (pos + l) m (n + 1) → But (own p A) H H' → Q .non H'
section
variable {K : PySem.W.Frag} {σ : L2.St} {H : Hp} {te td ty : TE} {v : V}
theorem q_asgAny {i : Nat} {D : Ends} {tz : TS} (h : te σ H fun v H1 => tz D (σ.set i (some v)) H1) : tSeq (tAsg te (gName i)) tz D σ H := h
theorem q_dropAny {D : Ends} {tz : TS} (h : te σ H fun _ H1 => tz D σ H1) : tSeq (tDrop te) tz D σ H := h
theorem ev_fld {p C dx : Addr} {fs : List (Str × V)} {f : Str} (he : Ev te σ H (.ref p)) (h : H p = some (.ins C dx fs)) (cl : Cls K C) (n : NoAttr K C f) (l : fs.lookup f = some v) : Ev (tFld K te f) σ H v := fun H1 e Q q =>
  he H1 e _ fun H2 e2 => ⟨p, C, dx, fs, v, rfl, (e.trans e2) _ _ h, cl, n, l, q H2 e2⟩
theorem ev_dget {a : Addr} {kvs : List (Key × V)} {x : Str} (hd : Ev td σ H (.ref a)) (hy : Ev ty σ H (.str x)) (h : H a = some (.dK kvs)) (hv : valV kvs (.inr x) = some v) : Ev (tDGet td ty) σ H v := fun H1 e Q q =>
  hd H1 e _ fun H2 e2 => hy H2 (e.trans e2) _ fun H3 e3 => ⟨a, v, rfl, by
    have z := DGet.k (k := .inr x) (((e.trans e2).trans e3) _ _ h)
    rw [hv] at z
    exact z, q H3 (e2.trans e3)⟩
end
section
variable {P : Program} {w : World} {K : PySem.W.Frag} {mg : Str → Option Value} {base : Heap}
theorem ok_over {f C : Addr} {fd : FuncData} {k : Nat} (F : Fun K "is_over" "Frame.is_over" sFOver f fd) (B : Blt mg) (T : FrC K mg C) : FnOk P w K mg base CX0 (k + 1) f fd ["self"] (spLook C fun vss pos _ _ => .bl (decide (pos = vss.length))) := by
  refine F.ok scFOver (fun vs H Q E h => by obtain ⟨_, _, _, _, _, _, rfl, _⟩ := h; rfl) (fun cdv A outer s H vs Q E hr h => ?_)
  obtain ⟨p, A', vss, pos, m, n, rfl, fr, _, q⟩ := h
  refine ⟨_, pss_one (ps_ret (pe_cmpR op_eq (pe_fld (pv 0) rfl) (pe_callB call_len_seq (by rfl) B.len bLen (pa_cons (pe_fld (pv 0) rfl) pa_nil)) (nomark _))), ?_⟩
  obtain ⟨xs, g1, g2⟩ := fr.st
  refine s_ret (ev_is (ev_op (ev_fld (ev_var rfl) fr.ob T.cl T.nP (fl_pos _ _)) (ev_cb (ea_cons (ev_fld (ev_var rfl) fr.ob T.cl T.nS (fl_steps _ _)) ea_nil) (rc_lenL (sq_of g1))) (rv_eq rfl)) ?_) q
  rw [g2.length]
  congr 1
  exact decide_eq_decide.mpr ⟨fun e => by have := V.int.inj e; omega, fun e => by rw [e]⟩
theorem ok_next {f C : Addr} {fd : FuncData} {k : Nat} (F : Fun K "next_step" "Frame.next_step" sFNext f fd) (T : FrC K mg C) (h1 : HasM P w K mg base CX0 k C "is_over" ["self"] (spLook C fun vss pos _ _ => .bl (decide (pos = vss.length)))) :
    FnOk P w K mg base CX0 (k + 1) f fd ["self"] (spNext C) := by
  obtain ⟨f1, d1, G1, b1, m1⟩ := h1.ex
  refine F.ok scFNext (fun vs H Q E h => by obtain ⟨_, _, _, _, _, _, rfl, _⟩ := h; rfl) (fun cdv A outer s H vs Q E hr h => ?_)
  obtain ⟨p, A', vss, pos, m, n, rfl, fr, few, hp, q⟩ := h
  refine ⟨_, pss_one (ps_ret (pe_ifExp (pt_val (pe_meth0 (pv 0) T.cl m1 G1 hr b1 .nil pass0)) pe_non (pe_ix ix_list (pe_fld (pv 0) rfl) (pe_fld (pv 0) rfl) (fun _ _ => rfl)))), ?_⟩
  refine ⟨.ref p, rfl, p, A'.dx, _, rfl, fr.ob, by rfl, p, A', vss, pos, m, n, rfl, fr, few, fun H1 e1 => ⟨_, rfl, ?_⟩⟩
  by_cases hpl : pos = vss.length
  · rw [decide_eq_true hpl]
    exact q .non H1 e1 (.inl ⟨rfl, hpl⟩)
  · rw [decide_eq_false hpl]
    have fr1 := fr.ex e1
    obtain ⟨xs, g1, g2⟩ := fr1.st
    have hlt : pos < vss.length := by omega
    obtain ⟨t, ht, hT⟩ := g2.get (List.getElem?_eq_getElem hlt)
    exact ev_op (ev_fld (ev_var rfl) fr1.ob T.cl T.nS (fl_steps _ _)) (ev_fld (ev_var rfl) fr1.ob T.cl T.nP (fl_pos _ _)) (rv_ixL (sq_of g1) (atI_nat ht)) H1 (Ex.refl H1) _ fun H2 e2 => q _ H2 (e1.trans e2) (.inr ⟨t, vss[pos], rfl, List.getElem?_eq_getElem hlt, e2 _ _ hT⟩)
theorem ok_vars {f C : Addr} {fd : FuncData} {k : Nat} (F : Fun K "variables" "Frame.variables" sFVars f fd) (B : Blt mg) (T : FrC K mg C) : FnOk P w K mg base CX0 (k + 1) f fd ["self"] (spVars C) := by
  refine F.ok scFVars (fun vs H Q E h => by obtain ⟨_, _, _, _, _, _, rfl, _⟩ := h; rfl) (fun cdv A outer s H vs Q E hr h => ?_)
  obtain ⟨p, A', vss, pos, m, n, rfl, fr, q⟩ := h
  refine ⟨_, pss_one (ps_ret (pe_callTy call_dictD (by rfl) B.dict bDict (pa_cons (pe_fld (pv 0) rfl) pa_nil))), ?_⟩
  exact ev_fld (ev_var rfl) fr.ob T.cl T.nM (fl_mem _ _) H (Ex.refl H) _ fun H1 e1 => ⟨A'.aM, m.kv, rfl, .inl (e1 _ _ fr.me), fun d hd => q d _ (fresh_back e1 hd) (e1.trans (Ex.new hd)) upd_same⟩
theorem ok_move {f C : Addr} {fd : FuncData} {k : Nat} (F : Fun K "move" "Frame.move" sFMove f fd) (T : FrC K mg C) : FnOk P w K mg base CX0 (k + 1) f fd ["self", "length"] (spMove C) := by
  refine F.ok scFMove (fun vs H Q E h => by obtain ⟨_, _, _, _, _, _, _, rfl, _⟩ := h; rfl) (fun cdv A outer s H vs Q E hr h => ?_)
  obtain ⟨p, A', vss, pos, m, n, l, rfl, fr, few, q⟩ := h
  refine ⟨_, pss_cons (ps_expr (pe_bm PySem.F.plainAttrs_list PySem.F.slot_list_append PySem.F.type_list_append mt_append (pe_fld (pv 0) rfl) (pa_cons (pe_fld (pv 0) rfl) pa_nil))) (pss_one (ps_fldaug (pv 0) (pv 1) in_add)), ?_⟩
  obtain ⟨vis, g1, g2⟩ := fr.vi
  refine q_app g1 (ev_fld (ev_var rfl) fr.ob T.cl T.nV (fl_vis _ _)) (ev_fld (ev_var rfl) fr.ob T.cl T.nP (fl_pos _ _)) (by omega) fun H1 e1 => ?_
  have fr2 := (fr.ex e1).setV (vis ++ [.int (pos : Int)])
  refine ⟨.ref p, rfl, p, C, A'.dx, _, .int (pos : Int), rfl, fr2.ob, T.cl, T.nP, fl_pos _ _, _, rfl, (pos : Int), (l : Int), rfl, rfl, _, _, fr2.ob, by show 4 < 1000; decide, ?_⟩
  have e0 : ((pos : Int) + (l : Int)) = ((pos + l : Nat) : Int) := by omega
  rw [e0, fl_put]
  have fr3 := fr2.setP (pos + l)
  have en : (vis ++ [V.int (pos : Int)]).length = n + 1 := by rw [List.length_append, g2]; rfl
  rw [en] at fr3
  exact q _ fr3 (((But.of e1).upd (by simp [own])).upd (by simp [own]))
end
end Cr
/-! frames: the making, the plain steps -/
namespace Cr
open PySem PySem.Spec PyProof.Rows L2 Evl
/-- Frame(program) -/
def spFrI (C CE : Addr) : Sp := fun vs H Q E => ∃ (p dx : Addr) (v : V) (d : PyData), vs = [.ref p, v] ∧ H p = some (.ins C dx []) ∧ Dt H v d ∧ sm d = true ∧
  (∀ vss A H', d = .list (stepsD vss) → (∀ vs ∈ vss, StepV vs) → vss.length ≤ 30 → dueOf none false d = none → FrameAt C H' p A vss 0 .zero 0 → H A.aS = none → H A.aM = none → H A.aV = none → But [p] H H' → Q .non H') ∧
  ∀ i, dueOf none false d = some i → ∀ dx H', H dx = none → Ex H H' → H' dx = some (.xd [("position", .int i)]) → E (.ref CE) (some dx) H'
theorem stepV_bare {vs : List V} (h : StepV vs) : vs.all bareV = true ∧ 1 ≤ vs.length ∧ vs.length ≤ 10 :=
  ⟨List.all_eq_true.mpr fun v hv => bare8_bare (List.all_eq_true.mp h.bare v hv), h.len1, Nat.le_trans h.len4 (by decide)⟩
theorem stepV_flat {vs : List V} (h : StepV vs) : vs.all flatV = true := List.all_eq_true.mpr fun v hv => bare8_flat (List.all_eq_true.mp h.bare v hv)
theorem smAll_bare : ∀ {vs : List V}, vs.all bare8 = true → smAll (vs.map flD) = true
  | [], _ => rfl
  | v :: r, h => by
    rw [List.all_cons, Bool.and_eq_true] at h
    rw [List.map_cons, smAll, smAll_bare h.2, Bool.and_true]
    cases v with
    | int i => rfl
    | str x =>
      have z : x.length ≤ 8 := (bare8_str h.1).1
      show sm (.str x) = true
      rw [sm]
      exact decide_eq_true (by omega)
    | _ => exact nomatch h.1
theorem stepV_sm {vs : List V} (h : StepV vs) : sm (.tuple (vs.map flD)) = true := by
  rw [sm, smAll_bare h.bare, Bool.and_true]
  have := h.len4
  exact decide_eq_true (by rw [List.length_map]; omega)
section
variable {P : Program} {w : World} {K : PySem.W.Frag} {mg : Str → Option Value} {base : Heap}
theorem zero_dict {σ : L2.St} {H : Hp} {aV : Addr} {Q : VK} (tV : KTup K aV (vars4.map V.str)) (hσ : ∀ x, wipe ((wipe σ [2]).set 2 (some x)) [2] = wipe σ [2]) (hz : ∀ x, ((wipe σ [2]).set 2 (some x))[2]? = some (some x))
    (q : ∀ D H', H D = none → Ex H H' → H' D = some (.dK M4.zero.kv) → Q (.ref D) H') : tDc (iTup K (tC (.ref aV))) (gName 2) tYes (tVar 2) (tC (.int 0)) [2] σ H Q := by
  refine ⟨aV, rfl, ⟨_, tV.sq⟩, fun D hD => dc_tup (K := K) (a := aV) (xs := vars4.map V.str) (fun i H' => H' D = some (.dK (M4.zero.kv.take i)) ∧ Ex H H') ⟨upd_same, Ex.new hD⟩ (fun i H' _ _ => tV.sq) (fun i x H' hi hP => ?_) (fun H' hP => q D H' hD hP.2 hP.1)⟩
  obtain ⟨h1, e⟩ := hP
  refine ⟨hσ x, ?_⟩
  refine ⟨x, hz x, ?_⟩
  have i4 : i = 0 ∨ i = 1 ∨ i = 2 ∨ i = 3 := by
    have := (List.getElem?_eq_some_iff.mp hi).1
    have e4 : (vars4.map V.str).length = 4 := rfl
    omega
  rcases i4 with rfl | rfl | rfl | rfl
  · cases hi; exact ⟨_, .inr "a", rfl, h1, by show 0 < sizeLine; decide, upd_same, Ex.mut e hD⟩
  · cases hi; exact ⟨_, .inr "b", rfl, h1, by show 1 < sizeLine; decide, upd_same, Ex.mut e hD⟩
  · cases hi; exact ⟨_, .inr "c", rfl, h1, by show 2 < sizeLine; decide, upd_same, Ex.mut e hD⟩
  · cases hi; exact ⟨_, .inr "d", rfl, h1, by show 3 < sizeLine; decide, upd_same, Ex.mut e hD⟩
theorem s_zeroF {σ : L2.St} {H : Hp} {aV : Addr} {f : Str} {D : Ends} {tz : TS} (tV : KTup K aV (vars4.map V.str)) (hσ : ∀ x, wipe ((wipe σ [2]).set 2 (some x)) [2] = wipe σ [2]) (hz : ∀ x, ((wipe σ [2]).set 2 (some x))[2]? = some (some x))
    (q : ∀ d H', H d = none → Ex H H' → H' d = some (.dK M4.zero.kv) → tVar 0 σ H' fun x H2 => ∃ a C dx fs, x = .ref a ∧ H2 a = some (.ins C dx fs) ∧ Cls K C ∧ NoAttr K C f ∧ fs.length < 1000 ∧ tz D σ (upd H2 a (.ins C dx (putF f (.ref d) fs)))) :
    tSeq (sFld K (tVar 0) (tDc (iTup K (tC (.ref aV))) (gName 2) tYes (tVar 2) (tC (.int 0)) [2]) f) tz D σ H := by
  unfold tSeq sFld
  exact zero_dict tV hσ hz q
theorem ok_finit {f C CE aV : Addr} {fd : FuncData} {k : Nat} (F : Fun K "__init__" "Frame.__init__" sFInit f fd) (B : Blt mg) (T : FrC K mg C) (gV : mg "VARIABLES" = some (.ref aV)) (tV : KTup K aV (vars4.map V.str)) (h1 : HasC P w K mg base k CE) (h2 : HasO P w K mg base k "bare_program" ["program"] spBareP) :
    FnOk P w K mg base (L2.CX P w) (k + 1) f fd ["self", "program"] (spFrI C CE) := by
  obtain ⟨f1, d1, G1, ⟨ds1, vd1, b1⟩, _, k1, g1⟩ := h1.ex
  obtain ⟨f2, d2, G2, b2, k2, g2⟩ := h2.ex
  refine F.okX scFInit (fun vs H Q E h => by obtain ⟨_, _, _, _, rfl, _⟩ := h; rfl) (fun cdv A outer s H vs Q E hr h => ?_)
  obtain ⟨p, dx, v, d, rfl, hp, hd, hs, q, qe⟩ := h
  refine ⟨_, pss_cons (ps_expr (pe_call (E := E) G1 hr (by rfl) g1 k1 b1 vd1 (passes_call (takes_of rfl rfl rfl rfl) fun _ _ _ _ h => h) (pa_cons (pv 1) pa_nil)))
    (pss_cons (ps_fld (pv 0) (pe_call (E := E0) G2 hr (by rfl) g2 k2 b2 .nil pass0 (pa_cons (pv 1) pa_nil)) rfl)
    (pss_cons (ps_fld (pv 0) pe_int rfl)
    (pss_cons (ps_fld (pv 0) (pe_dc (own := [("variable", 2)]) (g := gName 2) (tt := tYes) (tk := tVar 2) (tv := tC (.int 0)) rfl scFInit.nd (pi_tup (pe_glob (v := .ref aV) (by rfl) gV rfl)) (blkOk_by (own := [("variable", 2)]) (N := nFInit) (sc := defScope sFInit) (by decide +kernel))
        (fun _ _ _ _ _ => pg_name (i := 2) scFInit.nd rfl (Or.inl rfl)) (fun _ _ _ _ _ => pts_nil) (fun _ _ _ _ _ => pv 2) (fun _ _ _ _ _ => pe_int)) rfl)
    (pss_one (ps_fld (pv 0) (pe_lst pa_nil) rfl))))), ?_⟩
  refine ⟨v, rfl, v, d, false, rfl, hd, hs, fun hn H1 e1 => ?_, qe⟩
  obtain ⟨ds, rfl, h30, hst⟩ := due_none hn
  obtain ⟨a, xs, ds', rfl, e', hx, hds⟩ := list_form hd rfl
  cases e'
  obtain ⟨vss, rfl, hS, hV⟩ := steps_of hds hst
  have lv : vss.length ≤ 30 := by
    have := h30
    unfold stepsD at this
    rw [List.length_map] at this
    exact this
  refine ⟨.ref a, rfl, a, xs, vss, rfl, e1 _ _ hx, hS.tps (Ex.tps e1), by omega, fun vs hvs => stepV_bare (hV vs hvs), fun aS ys H2 zS e2 hS2 st2 => ?_⟩
  have hp2 : H2 p = some (.ins C dx []) := e2 _ _ (e1 _ _ hp)
  have pS : p ≠ aS := fun e => by rw [e, hS2] at hp2; cases hp2
  refine ⟨.ref p, rfl, p, C, dx, [], rfl, hp2, T.cl, T.nS, by show 0 < 1000; decide, ?_⟩
  refine ⟨.ref p, rfl, p, C, dx, _, rfl, upd_same, T.cl, T.nP, by show 1 < 1000; decide, ?_⟩
  refine s_zeroF (f := "memory") (σ := L2.start nFInit [.ref p, .ref a]) tV (fun _ => rfl) (fun _ => rfl) fun aM H3 zM e3 hM => ?_
  have hp3 : H3 p = some (.ins C dx [("steps", .ref aS), ("position", .int 0)]) := e3 _ _ upd_same
  have hS3 : H3 aS = some (.lst ys) := e3 _ _ (by rw [upd_ne pS.symm, upd_ne pS.symm]; exact hS2)
  have b3 : But [p] H H3 := fun c o n z => e3 _ _ (by
    have nc : c ≠ p := fun e => n (by rw [e]; exact List.mem_cons_self)
    rw [upd_ne nc, upd_ne nc]
    exact e2 _ _ (e1 _ _ z))
  have pM : p ≠ aM := fun e => by rw [e, hM] at hp3; cases hp3
  refine ⟨.ref p, rfl, p, C, dx, _, rfl, hp3, T.cl, T.nM, by show 2 < 1000; decide, ?_⟩
  refine ⟨Nat.zero_le _, fun aV' zV => ?_⟩
  have pV : p ≠ aV' := fun e => by rw [← e, upd_same] at zV; cases zV
  have nV : H3 aV' = none := by rw [upd_ne pV.symm] at zV; exact zV
  have SV : aS ≠ aV' := ne_of_none hS3 nV
  have MV : aM ≠ aV' := ne_of_none hM nV
  have MS : aM ≠ aS := fun e => by rw [e, hS3] at hM; cases hM
  refine ⟨.ref p, rfl, p, C, dx, _, rfl, by rw [upd_ne pV, upd_same], T.cl, T.nV, by show 3 < 1000; decide, ?_⟩
  have hne : ∀ {c : Addr} {o : HO}, H c = some o → c ≠ p → c ≠ aV' := fun z nc => ne_of_none (b3 _ _ (fun y => nc (List.mem_singleton.mp y)) z) nV
  have back : ∀ c, c ≠ p → H3 c = none → H c = none := fun c nc z => by
    cases hc : H c with
    | none => rfl
    | some o => rw [b3 c o (fun y => nc (List.mem_singleton.mp y)) hc] at z; cases z
  have backM : H aM = none := by
    cases hc : H aM with
    | none => rfl
    | some o =>
      have z := e2 _ _ (e1 _ _ hc)
      rw [upd_ne pM.symm, upd_ne pM.symm, z] at zM
      cases zM
  refine q vss ⟨dx, aS, aM, aV'⟩ _ rfl hV lv hn ⟨upd_same, ⟨ys, by rw [upd_ne pS.symm, upd_ne SV, upd_ne pS.symm]; exact hS3, ?_⟩, by rw [upd_ne pM.symm, upd_ne MV, upd_ne pM.symm]; exact hM, ⟨[], by rw [upd_ne pV.symm, upd_same], rfl⟩, SV⟩ (fresh_back e1 zS) backM (back _ pV.symm nV) (fun c o n z => ?_)
  · have t3 : Tps H2 H3 := fun c zs z => e3 _ _ (by
      have nc : c ≠ p := fun e => by rw [e, hp2] at z; cases z
      rw [upd_ne nc, upd_ne nc]
      exact z)
    refine (st2.tps t3).tps fun c zs z => ?_
    have nc : c ≠ p := fun e => by rw [e, hp3] at z; cases z
    have nv : c ≠ aV' := ne_of_none z nV
    rw [upd_ne nc, upd_ne nv, upd_ne nc]
    exact z
  · have nc : c ≠ p := fun e => n (by rw [e]; exact List.mem_cons_self)
    rw [upd_ne nc, upd_ne (hne z nc), upd_ne nc]
    exact b3 _ _ n z
end
end Cr
/-! frames: run_plain -/
namespace Cr
open PySem PySem.Spec PyProof.Rows L2 Evl
/-- how far a plain step goes, and the memory behind it -/
def goes (us : List V) (m : M4) : Nat :=
  match us with
  | [.str z, .str x, .int i] => if z = "skip" ∧ m.get x > 0 then 1 + i.toNat else 1
  | _ => 1
def memo (us : List V) (m : M4) : M4 :=
  match us with
  | [.str z, .str x, .int i] => if z = "set" then m.set x i else m
  | [.str _, .str x, .str y] => m.set x (m.get x + m.get y)
  | _ => m
theorem goes_eq (z x : Str) (i : Int) (m : M4) : goes [.str z, .str x, .int i] m = if z = "skip" ∧ m.get x > 0 then 1 + i.toNat else 1 := rfl
theorem memo_eq (z x : Str) (i : Int) (m : M4) : memo [.str z, .str x, .int i] m = if z = "set" then m.set x i else m := rfl
theorem memo_add (z x y : Str) (m : M4) : memo [.str z, .str x, .str y] m = m.set x (m.get x + m.get y) := rfl
inductive PlainV : List V → Prop
  | set {x : Str} {i : Int} (h : isVar (.str x) = true) : PlainV [.str "set", .str x, .int i]
  | add {x y : Str} (h : isVar (.str x) = true) (h' : isVar (.str y) = true) : PlainV [.str "add", .str x, .str y]
  | skip {x : Str} {i : Int} (h : isVar (.str x) = true) (h' : 1 ≤ i) : PlainV [.str "skip", .str x, .int i]
theorem ne_ss : ¬ (("skip" : Str) = "set") := by decide +kernel
theorem ne_st : ¬ (("set" : Str) = "skip") := by decide +kernel
theorem plain_kinds {z : Str} (h : (plain3.any fun y => y == z) = true) : z = "set" ∨ z = "add" ∨ z = "skip" := by
  simp only [plain3, List.any_cons, List.any_nil, Bool.or_false, Bool.or_eq_true, beq_iff_eq] at h
  rcases h with h | h | h
  · exact .inl h.symm
  · exact .inr (.inl h.symm)
  · exact .inr (.inr h.symm)
/-- a plain step by its values -/
theorem plain_of {us : List V} (h : StepV us) (hp : isPlain (.tuple (us.map flD)) = true) : PlainV us := by
  have hs := h.step
  have hb := h.bare
  unfold isPlain at hp
  rw [hs, Bool.true_and] at hp
  have str1 : ∀ {v : V}, isVar (flD v) = true → ∃ x, v = .str x := fun {v} h => by
    cases v with
    | str x => exact ⟨x, rfl⟩
    | _ => exact nomatch h
  have int1 : ∀ {v : V}, isInteger (flD v) = true → ∃ i, v = .int i := fun {v} h => by
    cases v with
    | int i => exact ⟨i, rfl⟩
    | _ => exact nomatch h
  cases us with
  | nil => exact nomatch hs
  | cons v0 us =>
    cases v0 with
    | str z =>
      have hp' : (plain3.any fun y => y == z) = true := hp
      have hs' : isStep (.tuple (.str z :: us.map flD)) = true := hs
      have two : ∀ {k1 k2 : Str}, shapeOf z = some [k1, k2] → ∃ a b, us = [a, b] ∧ isItem (flD a) k1 = true ∧ isItem (flD b) k2 = true := fun {k1 k2} e => by
        rw [isStep_eq e] at hs'
        obtain ⟨a1, a2⟩ := Bool.and_eq_true_iff.mp hs'
        have hl : (us.map flD).length = 2 := of_decide_eq_true a1
        rw [List.length_map] at hl
        match us, hl with
        | [a, b], _ =>
          rw [List.map_cons, List.map_cons, List.map_nil, items2] at a2
          obtain ⟨c1, c2⟩ := Bool.and_eq_true_iff.mp a2
          exact ⟨a, b, rfl, c1, c2⟩
      rcases plain_kinds hp' with rfl | rfl | rfl
      · obtain ⟨a, b, rfl, c1, c2⟩ := two sh_set
        rw [it_var] at c1
        rw [it_int] at c2
        obtain ⟨x, rfl⟩ := str1 c1
        obtain ⟨i, rfl⟩ := int1 c2
        exact .set c1
      · obtain ⟨a, b, rfl, c1, c2⟩ := two sh_add
        rw [it_var] at c1 c2
        obtain ⟨x, rfl⟩ := str1 c1
        obtain ⟨y, rfl⟩ := str1 c2
        exact .add c1 c2
      · obtain ⟨a, b, rfl, c1, c2⟩ := two sh_skip
        rw [it_var] at c1
        rw [it_len] at c2
        obtain ⟨c3, c4⟩ := Bool.and_eq_true_iff.mp c2
        obtain ⟨x, rfl⟩ := str1 c1
        obtain ⟨i, rfl⟩ := int1 c3
        exact .skip c1 (of_decide_eq_true c4)
    | _ =>
      rw [List.all_cons] at hb
      first
        | exact nomatch hs
        | exact nomatch hb
/-- what is next in the frame -/
def nextD (vss : List (List V)) (pos : Nat) : PyData :=
  match vss[pos]? with
  | some us => .tuple (us.map flD)
  | none => .none
def spRun (C CW : Addr) : Sp := fun vs H Q E => ∃ (p : Addr) (A : FrA) (vss : List (List V)) (pos : Nat) (m : M4) (n : Nat), vs = [.ref p] ∧ FrameAt C H p A vss pos m n ∧ (vss.length ≤ 900 ∧ n ≤ 900) ∧ pos ≤ vss.length ∧ (∀ us ∈ vss, StepV us) ∧
  (∀ us H', vss[pos]? = some us → PlainV us → FrameAt C H' p A vss (pos + goes us m) (memo us m) (n + 1) → But (own p A) H H' → Q .non H') ∧
  (isPlain (nextD vss pos) = false → ∀ dx H', H dx = none → Ex H H' → H' dx = some (.xd [("position", .int (pos : Int))]) → E (.ref CW) (some dx) H')
section
variable {P : Program} {w : World} {K : PySem.W.Frag} {mg : Str → Option Value} {base : Heap}
theorem log_small {n : Nat} (h : n ≤ 900) : ((n : Nat) : Int).natAbs.log2 < 1000 := by
  rw [Int.natAbs_natCast]
  exact Nat.lt_of_le_of_lt (Nat.log2_le_self n) (by omega)
theorem ok_run {f C CW : Addr} {fd : FuncData} {k : Nat} (F : Fun K "run_plain" "Frame.run_plain" sFRun f fd) (T : FrC K mg C) (W : MkNum P w K mg base CW "WrongStep" "position" "position") (hk2 : 2 ≤ k)
    (h1 : HasM P w K mg base CX0 k C "next_step" ["self"] (spNext C)) (h2 : HasO P w K mg base k "is_plain" ["step"] (spD isPlain)) (h3 : HasM P w K mg base CX0 k C "move" ["self", "length"] (spMove C)) :
    FnOk P w K mg base (L2.CX P w) (k + 1) f fd ["self"] (spRun C CW) := by
  obtain ⟨f1, d1, G1, b1, m1⟩ := h1.ex
  obtain ⟨f2, d2, G2, b2, k2, g2⟩ := h2.ex
  obtain ⟨f3, d3, G3, b3, m3⟩ := h3.ex
  obtain ⟨fI, fdI, bb, Ox, FI, bI, iI, tI, gC⟩ := W.ex
  refine F.okX scFRun (fun vs H Q E h => by obtain ⟨_, _, _, _, _, _, rfl, _⟩ := h; rfl) (fun cdv A outer s H vs Q E hr h => ?_)
  obtain ⟨p, A', vss, pos, m, n, rfl, fr, few, hpos, hV, q, qe⟩ := h
  have hu := hu_of hr
  refine ⟨_, pss_cons (ps_set (i := 1) scFRun.nd rfl (.inl rfl) (pe_meth0 (E := E0) (pv 0) T.cl m1 G1 hr b1 .nil pass0))
    (pss_cons (ps_if (pt_not (pt_val (pe_call (E := E0) G2 hr (by rfl) g2 k2 b2 .nil pass0 (pa_cons (pv 1) pa_nil))))
      (pss_one (ps_raise rfl (takes_of rfl rfl rfl rfl) (pmkG Ox iI tI FI (hr.mono hk2) bI .nil pass0 (by rfl) gC (pa_cons (pe_fld (pv 0) rfl) pa_nil)))) pss_nil)
    (pss_cons (ps_asg (pv 1) (pg_tup rfl (pgs_cons (pg_name (i := 2) scFRun.nd rfl (.inl rfl)) (pgs_cons (pg_name (i := 3) scFRun.nd rfl (.inl rfl)) (pgs_cons (pg_name (i := 4) scFRun.nd rfl (.inl rfl)) pgs_nil)))))
    (pss_cons (ps_set (i := 5) scFRun.nd rfl (.inl rfl) pe_int)
    (pss_cut (ps_if (pt_cmpR op_eq (pv 2) pe_str (nomark _)) (pss_one (ps_dput hu (pe_fld (pv 0) rfl) (pv 3) (pv 4) rfl))
      (pss_one (ps_if (pt_cmpR op_eq (pv 2) pe_str (nomark _)) (pss_one (ps_daug hu (pe_fld (pv 0) rfl) (pv 3) (pe_dget hu (pe_fld (pv 0) rfl) (pv 4) (fun _ _ => rfl)) in_add (fun _ _ _ => rfl)))
        (pss_one (ps_if (pt_cmpR op_gt (pe_dget hu (pe_fld (pv 0) rfl) (pv 3) (fun _ _ => rfl)) pe_int (nomark _)) (pss_one (ps_aug (i := 5) scFRun.nd rfl (.inl rfl) (pv 4) ip_add)) pss_nil)))))
    (pss_one (ps_expr (pe_meth (E := E0) (pv 0) T.cl m3 G3 hr b3 .nil pass0 (pa_cons (pv 5) pa_nil)))))))), ?_⟩
  refine q_asgAny ⟨.ref p, rfl, p, A'.dx, _, rfl, fr.ob, by rfl, p, A', vss, pos, m, n, rfl, fr, ⟨by omega, by omega⟩, hpos, fun v H1 e1 hv => ?_⟩
  have fr1 := fr.ex e1
  have dt : Dt H1 v (nextD vss pos) ∧ sm (nextD vss pos) = true := by
    unfold nextD
    rcases hv with ⟨rfl, e⟩ | ⟨t, us, rfl, hus, hT⟩
    · rw [List.getElem?_eq_none (by omega)]
      exact ⟨.non, rfl⟩
    · rw [hus]
      have sv := hV us (List.mem_of_getElem? hus)
      exact ⟨.tup hT (dtAll_flat (stepV_flat sv)), stepV_sm sv⟩
  refine q_when (b := !isPlain (nextD vss pos)) (et_not (et_B (ev_call (ea_cons (ev_var rfl) ea_nil) (spv_D dt.1 dt.2)))) (fun hb H2 e2 => ?_) (fun hb H2 e2 => ?_)
  · rw [Bool.not_eq_true'] at hb
    have fr2 := fr1.ex e2
    exact mk_num ⟨.ref p, rfl, p, C, A'.dx, _, _, rfl, fr2.ob, T.cl, T.nP, fl_pos _ _, (pos : Int), rfl, log_small (by omega), fun dx hz => qe hb dx _ (fresh_back (e1.trans e2) hz) ((e1.trans e2).trans (Ex.new hz)) upd_same⟩
      (fun k ⟨x, hx, a, C, dx, fs, v, h1, h2, h3, h4, h5, r⟩ => ⟨x, hx, a, C, dx, fs, v, h1, h2, h3, h4, h5, k _ _ r⟩)
  · rw [Bool.not_eq_false'] at hb
    rcases hv with ⟨rfl, e⟩ | ⟨t, us, rfl, hus, hT⟩
    · unfold nextD at hb
      rw [List.getElem?_eq_none (by omega)] at hb
      exact nomatch hb
    have sv := hV us (List.mem_of_getElem? hus)
    have pl : PlainV us := plain_of sv (by unfold nextD at hb; rw [hus] at hb; exact hb)
    have fr2 := fr1.ex e2
    have hT2 := e2 _ _ hT
    have bt : But (own p A') H H2 := But.of (e1.trans e2)
    -- the end
    have fin : ∀ {σ : L2.St} {H3 : Hp} {l : Nat}, σ[0]? = some (some (.ref p)) → σ[5]? = some (some (.int (l : Int))) → l = goes us m → FrameAt C H3 p A' vss pos (memo us m) n → But (own p A') H H3 →
        tDrop (tMeth C "move" (spMove C) [] E0 (tVar 0) (tCons (tVar 5) tNil)) { nx := fun _ H' => Q .non H', rt := Q } σ H3 := fun {σ H3 l} s0 s5 el f3 b3 => by
      refine ⟨.ref p, s0, p, A'.dx, _, rfl, f3.ob, by rfl, .int (l : Int), s5, p, A', vss, pos, memo us m, n, l, rfl, f3, by omega, fun H4 f4 b4 => ?_⟩
      rw [el] at f4
      exact q us H4 hus pl f4 (b3.trans b4)
    cases pl with
    | @set x i hx =>
      refine ⟨.ref t, rfl, t, _, rfl, .inl (.inl hT2), rfl, .str "set", _, rfl, .str x, _, rfl, .int i, _, rfl, rfl, ?_⟩
      refine q_cut (M := fun σ H3 => σ[0]? = some (some (.ref p)) ∧ σ[5]? = some (some (.int ((1 : Nat) : Int))) ∧ FrameAt C H3 p A' vss pos (m.set x i) n ∧ But (own p A') H H3) ?_ (fun σ H3 ⟨s0, s5, f3, b3⟩ => fin s0 s5 (by rw [goes_eq, if_neg (fun z => ne_st z.1)]) (by rw [memo_eq, if_pos rfl]; exact f3) b3)
      refine s_if (b := true) (et_is (et_test (ev_op (ev_var rfl) ev_c (rv_eq rfl))) (decide_eq_true rfl)) (fun _ H3 e3 => ?_) (fun z => nomatch z)
      have f3 := fr2.ex e3
      refine ⟨.int i, rfl, .ref p, rfl, p, C, A'.dx, _, _, rfl, f3.ob, T.cl, T.nM, fl_mem _ _, .str x, rfl, A'.aM, _, rfl, DPut.k (k := .inr x) f3.me (by show 4 < sizeLine; decide), rfl, rfl, ?_, (bt.trans (But.of e3)).upd (by simp [own])⟩
      rw [m4_put _ hx]
      exact f3.setM _
    | @add x y hx hy =>
      refine ⟨.ref t, rfl, t, _, rfl, .inl (.inl hT2), rfl, .str "add", _, rfl, .str x, _, rfl, .str y, _, rfl, rfl, ?_⟩
      refine q_cut (M := fun σ H3 => σ[0]? = some (some (.ref p)) ∧ σ[5]? = some (some (.int ((1 : Nat) : Int))) ∧ FrameAt C H3 p A' vss pos (m.set x (m.get x + m.get y)) n ∧ But (own p A') H H3) ?_ (fun σ H3 ⟨s0, s5, f3, b3⟩ => fin s0 s5 rfl f3 b3)
      refine s_if (b := false) (et_is (et_test (ev_op (ev_var rfl) ev_c (rv_eq rfl))) (by decide +kernel)) (fun z => nomatch z) (fun _ H3 e3 => ?_)
      refine s_if (b := true) (et_is (et_test (ev_op (ev_var rfl) ev_c (rv_eq rfl))) (decide_eq_true rfl)) (fun _ H4 e4 => ?_) (fun z => nomatch z)
      have f4 := fr2.ex (e3.trans e4)
      have gx := DGet.k (k := .inr x) f4.me
      rw [m4_val _ hx] at gx
      refine ⟨.ref p, rfl, p, C, A'.dx, _, _, rfl, f4.ob, T.cl, T.nM, fl_mem _ _, .str x, rfl, A'.aM, .int (m.get x), rfl, gx, ?_⟩
      refine ev_dget (ev_fld (ev_var rfl) f4.ob T.cl T.nM (fl_mem _ _)) (ev_var rfl) f4.me (m4_val _ hy) _ (Ex.refl _) _ fun H5 e5 => ?_
      have f5 := f4.ex e5
      refine ⟨_, _, rfl, rfl, _, DPut.k (k := .inr x) f5.me (by show 4 < sizeLine; decide), rfl, rfl, ?_, (bt.trans (But.of ((e3.trans e4).trans e5))).upd (by simp [own])⟩
      rw [m4_put _ hx]
      exact f5.setM _
    | @skip x i hx hi =>
      refine ⟨.ref t, rfl, t, _, rfl, .inl (.inl hT2), rfl, .str "skip", _, rfl, .str x, _, rfl, .int i, _, rfl, rfl, ?_⟩
      refine q_cut (M := fun σ H3 => σ[0]? = some (some (.ref p)) ∧ σ[5]? = some (some (.int ((goes [.str "skip", .str x, .int i] m : Nat) : Int))) ∧ FrameAt C H3 p A' vss pos m n ∧ But (own p A') H H3) ?_ (fun σ H3 ⟨s0, s5, f3, b3⟩ => fin s0 s5 rfl (by rw [memo_eq, if_neg ne_ss]; exact f3) b3)
      refine s_if (b := false) (et_is (et_test (ev_op (ev_var rfl) ev_c (rv_eq rfl))) (by decide +kernel)) (fun z => nomatch z) (fun _ H3 e3 => ?_)
      refine s_if (b := false) (et_is (et_test (ev_op (ev_var rfl) ev_c (rv_eq rfl))) (by decide +kernel)) (fun z => nomatch z) (fun _ H4 e4 => ?_)
      have f4 := fr2.ex (e3.trans e4)
      refine s_when (b := decide (m.get x > 0)) (et_test (ev_op (ev_dget (ev_fld (ev_var rfl) f4.ob T.cl T.nM (fl_mem _ _)) (ev_var rfl) f4.me (m4_val _ hx)) ev_c rv_I0)) (fun hb H5 e5 => ?_) (fun hb H5 e5 => ?_)
      · refine s_aug (f := fun a b => a + b) (a := 1) (b := i) rfl (ev_var rfl) fun H6 e6 => ⟨rfl, ?_, f4.ex (e5.trans e6), bt.trans (But.of ((e3.trans e4).trans (e5.trans e6)))⟩
        have eg : ((goes [.str "skip", .str x, .int i] m : Nat) : Int) = 1 + i := by
          rw [goes_eq, if_pos ⟨rfl, of_decide_eq_true hb⟩]
          omega
        rw [eg]
        rfl
      · refine ⟨rfl, ?_, f4.ex e5, bt.trans (But.of ((e3.trans e4).trans e5))⟩
        have eg : goes [.str "skip", .str x, .int i] m = 1 := by
          rw [goes_eq, if_neg (fun z => of_decide_eq_false hb z.2)]
        rw [eg]
        rfl
end
end Cr
/-! data whose text is short: by bulk and depth -/
namespace Cr
open PySem PySem.Spec PyProof.Rows L2 Evl
/-- leaves of at most 80 signs, so much bulk, so deep -/
structure Sz (b m : Nat) (d : PyData) : Prop where
  sh : d.showable = true
  lf : d.leavesShort 80 = true
  bk : d.bulk ≤ b
  dp : d.depth ≤ m
structure SzA (b m : Nat) (ds : List PyData) : Prop where
  sh : PyData.showableAll ds = true
  lf : PyData.leavesShortAll 80 ds = true
  bk : PyData.bulkAll ds ≤ b
  dp : PyData.depthAll ds ≤ m
structure SzK (b m : Nat) (es : List (PyData × PyData)) : Prop where
  sh : PyData.showableKv es = true
  lf : PyData.leavesShortKv 80 es = true
  bk : PyData.bulkKv es ≤ b
  dp : PyData.depthKv es ≤ m
theorem Sz.fits {b m : Nat} {d : PyData} (h : Sz b m d) (hb : b ≤ 100000) (hm : m ≤ 50) : Fits d := by
  refine ⟨h.sh, Nat.le_trans h.dp hm, ?_⟩
  have z := PyData.shown_le_bulk 80 (by decide) d h.lf
  have y := h.bk
  rw [sizeLine_eq]
  omega
theorem Sz.mono {b b' m m' : Nat} {d : PyData} (h : Sz b m d) (hb : b ≤ b') (hm : m ≤ m') : Sz b' m' d := ⟨h.sh, h.lf, Nat.le_trans h.bk hb, Nat.le_trans h.dp hm⟩
theorem sz_int {b m : Nat} {i : Int} (h : i.natAbs ≤ 10 ^ 70) : Sz b m (.int i) := by
  refine ⟨?_, ?_, Nat.zero_le _, Nat.zero_le _⟩
  · rw [PyData.showable]
    refine decide_eq_true ?_
    by_cases hz : i.natAbs = 0
    · rw [hz]; decide
    · have e : (10 : Nat) ^ 70 < 2 ^ 300 := by decide
      have := (Nat.log2_lt (k := 300) hz).mpr (by omega)
      omega
  · rw [PyData.leavesShort]
    refine decide_eq_true ?_
    have e := int_text_length_le10 (k := 71) (a := i) (by decide) (Nat.lt_of_le_of_lt h (by decide))
    show (Str.ofString (toString i)).length ≤ 80
    rw [PySem.ofString_length]
    omega
theorem sz_str {b m : Nat} {x : Str} (hb : x.length ≤ b) (hx : ∀ c ∈ x.cps.toList, c < 1000) : Sz b m (.str x) := by
  refine ⟨rfl, ?_, ?_, Nat.zero_le _⟩
  · rw [PyData.leavesShort]
    exact List.all_eq_true.mpr fun c hc => decide_eq_true (Nat.lt_trans (hx c hc) (by decide))
  · rw [PyData.bulk]
    exact hb
theorem sza_nil {b m : Nat} : SzA b m [] := ⟨rfl, rfl, Nat.zero_le _, Nat.zero_le _⟩
theorem sza_cons {b b' m : Nat} {d : PyData} {ds : List PyData} (h : Sz b m d) (r : SzA b' m ds) : SzA (b + 1 + b') m (d :: ds) := by
  refine ⟨by rw [PyData.showableAll, h.sh, r.sh]; rfl, by rw [PyData.leavesShortAll, h.lf, r.lf]; rfl, ?_, ?_⟩
  · have h1 := h.bk
    have h2 := r.bk
    rw [PyData.bulkAll]
    omega
  · rw [PyData.depthAll]
    exact Nat.max_le.mpr ⟨h.dp, r.dp⟩
theorem szk_cons {a b b' m : Nat} {k d : PyData} {es : List (PyData × PyData)} (hk : Sz a m k) (h : Sz b m d) (r : SzK b' m es) : SzK (a + b + 2 + b') m ((k, d) :: es) := by
  refine ⟨by rw [PyData.showableKv, hk.sh, h.sh, r.sh]; rfl, by rw [PyData.leavesShortKv, hk.lf, h.lf, r.lf]; rfl, ?_, ?_⟩
  · have h0 := hk.bk
    have h1 := h.bk
    have h2 := r.bk
    rw [PyData.bulkKv]
    omega
  · rw [PyData.depthKv]
    exact Nat.max_le.mpr ⟨Nat.max_le.mpr ⟨hk.dp, h.dp⟩, r.dp⟩
theorem sz_list {b m : Nat} {ds : List PyData} (h : SzA b m ds) : Sz b (m + 1) (.list ds) := ⟨by rw [PyData.showable]; exact h.sh, by rw [PyData.leavesShort]; exact h.lf, by rw [PyData.bulk]; exact h.bk, by rw [PyData.depth]; exact Nat.succ_le_succ h.dp⟩
theorem sz_tuple {b m : Nat} {ds : List PyData} (h : SzA b m ds) : Sz b (m + 1) (.tuple ds) := ⟨by rw [PyData.showable]; exact h.sh, by rw [PyData.leavesShort]; exact h.lf, by rw [PyData.bulk]; exact h.bk, by rw [PyData.depth]; exact Nat.succ_le_succ h.dp⟩
theorem sz_dict {b m : Nat} {es : List (PyData × PyData)} (h : SzK b m es) : Sz b (m + 1) (.dict es) := ⟨by rw [PyData.showable]; exact h.sh, by rw [PyData.leavesShort]; exact h.lf, by rw [PyData.bulk]; exact h.bk, by rw [PyData.depth]; exact Nat.succ_le_succ h.dp⟩
theorem sza_all {b m : Nat} : ∀ {ds : List PyData}, (∀ d ∈ ds, Sz b m d) → SzA ((b + 1) * ds.length) m ds
  | [], _ => ⟨rfl, rfl, Nat.zero_le _, Nat.zero_le _⟩
  | d :: r, h => by
    have z := sza_cons (h d List.mem_cons_self) (sza_all fun x hx => h x (List.mem_cons_of_mem _ hx))
    refine ⟨z.sh, z.lf, ?_, z.dp⟩
    have y := z.bk
    rw [List.length_cons, Nat.mul_add, Nat.mul_one]
    omega
end Cr
/-! the law's own draws -/
namespace Cr
open PySem PySem.Spec PyProof.Rows L2 Evl
abbrev sPot : Stmt := topS 49
abbrev sDraw : Stmt := topS 50
abbrev sChoice : Stmt := topS 51
abbrev nPot : List Str := ["_law_script", "_law_index", "_law_cell"]
abbrev nDraw : List Str := ["_law_pot_here", "_law_bound", "_law_digit"]
abbrev nChoice : List Str := ["_law_pot_here", "_law_options"]
theorem scPot : FnScope nPot ["_law_script", "_law_index"] (defScope sPot) := ⟨rfl, rfl, rfl, by decide +kernel, rfl, by decide +kernel, by decide +kernel⟩
theorem scDraw : FnScope nDraw ["_law_pot_here", "_law_bound"] (defScope sDraw) := ⟨rfl, rfl, rfl, by decide +kernel, rfl, by decide +kernel, by decide +kernel⟩
theorem scChoice : FnScope nChoice ["_law_pot_here", "_law_options"] (defScope sChoice) := ⟨rfl, rfl, rfl, by decide +kernel, rfl, by decide +kernel, by decide +kernel⟩
theorem bMax : bootBuiltins "max" = some (.builtin "max") := by decide +kernel
theorem bMin : bootBuiltins "min" = some (.builtin "min") := by decide +kernel
theorem bAbs : bootBuiltins "abs" = some (.builtin "abs") := by decide +kernel
theorem bDivmod : bootBuiltins "divmod" = some (.builtin "divmod") := by decide +kernel
/-- the pot at p -/
def Pot (H : Hp) (p : Addr) : Prop := ∃ x y : Int, H p = some (.lst [.int x, .int y]) ∧ 0 ≤ x ∧ 0 ≤ y ∧ y < 2147483648
/-- drawn from: all but the pot stands as it stood -/
structure Drew (p : Addr) (H H' : Hp) : Prop where
  ex : Ex (wo p H) (wo p H')
  pot : Pot H' p
theorem Drew.trans {p : Addr} {H H1 H2 : Hp} (a : Drew p H H1) (b : Drew p H1 H2) : Drew p H H2 := ⟨a.ex.trans b.ex, b.pot⟩
theorem Drew.refl {p : Addr} {H : Hp} (h : Pot H p) : Drew p H H := ⟨Ex.refl _, h⟩
theorem Pot.ex {p : Addr} {H H' : Hp} (h : Pot H p) (e : Ex H H') : Pot H' p := by
  obtain ⟨x, y, h, r⟩ := h
  exact ⟨x, y, e _ _ h, r⟩
theorem Drew.of {p : Addr} {H H' : Hp} (h : Pot H p) (e : Ex H H') : Drew p H H' := ⟨Ex.wo e, h.ex e⟩
theorem Drew.at {p a : Addr} {H H' : Hp} {o : HO} (d : Drew p H H') (n : a ≠ p) (h : H a = some o) : H' a = some o :=
  (wo_some (d.ex a o (by rw [wo_ne n]; exact h))).2
theorem Drew.set {p : Addr} {H : Hp} {o : HO} {x y : Int} (e : o = .lst [.int x, .int y]) (hx : 0 ≤ x) (hy : 0 ≤ y) (hy2 : y < 2147483648) : Drew p H (upd H p o) :=
  ⟨wo_upd (Ex.refl _), x, y, by rw [upd_same, e], hx, hy, hy2⟩
theorem fresh_drew {p q : Addr} {H H' : Hp} (d : Drew p H H') (hp : Pot H p) (h : H' q = none) : H q = none := by
  cases e : H q with
  | none => rfl
  | some o =>
    by_cases n : q = p
    · subst n
      obtain ⟨x, y, z, _⟩ := d.pot
      rw [z] at h
      cases h
    · rw [d.at n e] at h
      cases h
def spPot (K : PySem.W.Frag) : Sp := fun vs H Q _ => ∃ (a : Addr) (ns : List Int) (i : Nat), vs = [.ref a, .int (i : Int)] ∧ SqL K H a (ns.map V.int) ∧ i < 100 ∧ ∀ p H', H p = none → Ex H H' → Pot H' p → Q (.ref p) H'
def spDraw : Sp := fun vs H Q _ => ∃ (p : Addr) (b : Int), vs = [.ref p, .int b] ∧ 0 < b ∧ b.natAbs.log2 < 9000 ∧ Pot H p ∧ ∀ d H', 0 ≤ d → d < b → Drew p H H' → Q (.int d) H'
def spChoice : Sp := fun vs H Q _ => ∃ (p : Addr), Pot H p ∧
  ((∃ (o : Addr) (xs : List V), vs = [.ref p, .ref o] ∧ o ≠ p ∧ H o = some (.lst xs) ∧ 0 < xs.length ∧ xs.length ≤ 1000 ∧ ∀ v H', v ∈ xs → Drew p H H' → Q v H') ∨
   ∃ z : Str, vs = [.ref p, .str z] ∧ 0 < z.length ∧ z.length ≤ 1000 ∧ ∀ c H', c ∈ z.cps.toList → Drew p H H' → Q (.str ⟨#[c]⟩) H')
section
variable {P : Program} {w : World} {K : PySem.W.Frag} {mg : Str → Option Value} {base : Heap}
theorem ok_pot {f : Addr} {fd : FuncData} {k : Nat} (F : Fun K "_law_pot" "_law_pot" sPot f fd) (B : Blt mg) : FnG P w K mg base CX0 (k + 1) f fd ["_law_script", "_law_index"] (spPot K) := by
  refine okG F scPot (fun vs H Q E h => by obtain ⟨_, _, _, rfl, _⟩ := h; rfl) (fun cdv A outer s H vs Q E hq hr h => ?_)
  obtain ⟨a, ns, i, rfl, hS, hi, q⟩ := h
  refine ⟨_, pss_cons (ps_set (i := 2) scPot.nd rfl (.inl rfl) pe_int)
    (pss_cut (ps_if (pt_cmpR op_lt (pv 1) (pe_callB call_len_seq (by rfl) B.len bLen (pa_cons (pv 0) pa_nil)) (nomark _))
      (pss_one (ps_set (i := 2) scPot.nd rfl (.inl rfl) (pe_callB call_abs (by rfl) B.abs bAbs (pa_cons (pe_ix ix_list (pv 0) (pv 1) (fun _ _ => rfl)) pa_nil)))) pss_nil)
    (pss_one (ps_ret (pe_lst (pa_cons (pe_callB (call_max2 rfl) (by rfl) B.max bMax (pa_cons pe_int (pa_cons (pe_op op_sub (pv 2) (pe_op op_pow pe_int pe_int)) pa_nil)))
      (pa_cons (pe_op op_add (pe_op op_mod (pe_op op_pow (pe_op op_add (pe_op op_add (pe_op op_mod (pv 2) pe_int) (pe_op op_mul pe_int (pv 1))) pe_int) pe_int) pe_int) pe_int) pa_nil)))))), ?_⟩
  refine q_asg ev_c fun H1 e1 => ?_
  refine q_cut (M := fun σ H2 => ∃ c : Int, 0 ≤ c ∧ σ = [some (.ref a), some (.int i), some (.int c)] ∧ Ex H H2) ?_ ?_
  · refine s_when (et_test (ev_op (ev_var rfl) (ev_cb (ea_cons (ev_var rfl) ea_nil) (rc_lenL (ex_l e1 hS))) rv_I0)) (fun hb H2 e2 => ?_) (fun hb H2 e2 => ⟨0, Int.le_refl 0, rfl, e1.trans e2⟩)
    have hlt := of_decide_eq_true hb
    rw [List.length_map] at hlt
    have hlt2 : i < ns.length := by omega
    refine s_asg (v := .int (if ns[i] < 0 then -ns[i] else ns[i])) (ev_cb (ea_cons (ev_op (ev_var rfl) (ev_var rfl) (rv_ixL (ex_l (e1.trans e2) hS) (atI_nat (j := i) (v := .int ns[i]) (by rw [List.getElem?_map, List.getElem?_eq_getElem hlt2]; rfl)))) ea_nil) (fun H3 _ Q q => ⟨_, rfl, q H3 (Ex.refl H3)⟩)) fun H3 e3 => ?_
    exact ⟨_, by split <;> omega, rfl, (e1.trans e2).trans e3⟩
  · rintro σ H2 ⟨c, hc, rfl, e2⟩
    have hm : 0 ≤ c % 2147483629 ∧ c % 2147483629 < 2147483629 := ⟨Int.emod_nonneg _ (by decide), Int.emod_lt_of_pos _ (by decide)⟩
    have hz : (c % 2147483629 + 1013 * (i : Int) + 7).natAbs < 2 ^ 64 := by omega
    have hx : ∀ y : Int, 0 ≤ y % 2147483587 ∧ y % 2147483587 < 2147483587 := fun y => ⟨Int.emod_nonneg _ (by decide), Int.emod_lt_of_pos _ (by decide)⟩
    have hx1 := hx ((c % 2147483629 + 1013 * (i : Int) + 7) ^ (3 : Int).toNat)
    refine s_retL (el_lst (ea_cons (ev_cb (ea_cons ev_c (ea_cons (ev_op (ev_var rfl) (ev_op ev_c ev_c (rv_I ⟨by decide, by decide, by decide⟩)) rv_I0) ea_nil)) (fun H3 _ Q q => ⟨_, _, rfl, q H3 (Ex.refl H3)⟩))
      (ea_cons (ev_op (ev_op (ev_op (ev_op (ev_op (ev_op (ev_var rfl) ev_c (rv_I (by show (0 : Int) < 2147483629; decide))) (ev_op ev_c (ev_var rfl) (rv_I (.inl ⟨by decide, by decide⟩))) rv_I0) ev_c rv_I0) ev_c (rv_I ⟨by decide, by decide, hz⟩)) ev_c (rv_I (by show (0 : Int) < 2147483587; decide))) ev_c rv_I0) ea_nil)) (by show 2 ≤ 100000; decide)) fun p H3 hp e3 h3 => ?_
    refine q p H3 (fresh_back e2 hp) (e2.trans e3) ⟨_, _, h3, ?_, ?_, ?_⟩
    · split <;> omega
    · omega
    · omega
end
end Cr
namespace Cr
open PySem PySem.Spec PyProof.Rows L2 Evl
/-- the law's helpers as they are called: the promise, how it binds, where it stands -/
structure Has (P : Program) (w : World) (K : PySem.W.Frag) (mg : Str → Option Value) (base : Heap) (k : Nat) (x : Str) (ps : List Str) (sp : Sp) : Prop where
  ex : ∃ f fd, FnG P w K mg base CX0 k f fd ps sp ∧ Binds K fd ps [] ∧ PySem.W.keepIn K (.ref f) = true ∧ mg x = some (.ref f)
theorem divp_small {i j : Int} (h : 0 < j) (hj : j.natAbs.log2 < 9000) : CDivP i j := by
  refine ⟨h, ?_⟩
  show (decide ((if j == 0 then 0 else j.natAbs.log2 / 30 + 1) > 300) && decide ((if i == 0 then 0 else i.natAbs.log2 / 30 + 1) > (if j == 0 then 0 else j.natAbs.log2 / 30 + 1) + 150)) = false
  rw [if_neg (show ¬ (j == 0) = true by simpa using (show j ≠ 0 by omega)), decide_eq_false (show ¬ j.natAbs.log2 / 30 + 1 > 300 by omega), Bool.false_and]
section
variable {P : Program} {w : World} {K : PySem.W.Frag} {mg : Str → Option Value} {base : Heap}
theorem ok_draw {f : Addr} {fd : FuncData} {k : Nat} (F : Fun K "_law_draw" "_law_draw" sDraw f fd) (B : Blt mg) : FnG P w K mg base CX0 (k + 1) f fd ["_law_pot_here", "_law_bound"] spDraw := by
  refine okG F scDraw (fun vs H Q E h => by obtain ⟨_, _, rfl, _⟩ := h; rfl) (fun cdv A outer s H vs Q E hq hr h => ?_)
  obtain ⟨p, b, rfl, hb, hb2, ⟨x, y, hp, hx, hy, hy2⟩, q⟩ := h
  refine ⟨_, pss_cons (ps_if (pt_cmpR op_gt (pe_ix ix_list (pv 0) pe_int (fun _ _ => rfl)) pe_int (nomark _))
      (pss_cons (ps_asg (pe_callB call_divmodW (by rfl) B.divmod bDivmod (pa_cons (pe_ix ix_list (pv 0) pe_int (fun _ _ => rfl)) (pa_cons (pv 1) pa_nil)))
          (pg_tup rfl (pgs_cons (pg_sub (pv 0) pe_int set_list) (pgs_cons (pg_name (i := 2) scDraw.nd rfl (.inl rfl)) pgs_nil))))
        (pss_one (ps_ret (pv 2)))) pss_nil)
    (pss_cons (ps_asg (pe_op op_mod (pe_op op_add (pe_op op_mul (pe_ix ix_list (pv 0) pe_int (fun _ _ => rfl)) pe_int) pe_int) pe_int) (pg_sub (pv 0) pe_int set_list))
    (pss_one (ps_ret (pe_op op_mod (pe_op op_fdiv (pe_op op_mod (pe_op op_mul (pe_ix ix_list (pv 0) pe_int (fun _ _ => rfl)) (pe_ix ix_list (pv 0) pe_int (fun _ _ => rfl))) pe_int) pe_int) (pv 1))))), ?_⟩
  have i0 : atI [V.int x, V.int y] 0 = some (.int x) := atI_nat (j := 0) rfl
  have i1 : ∀ z : Int, atI [V.int x, V.int z] 1 = some (.int z) := fun z => atI_nat (j := 1) rfl
  refine q_when (et_test (ev_op (ev_op (ev_var rfl) ev_c (rv_ixL (sq_of hp) i0)) ev_c rv_I0)) (fun hc H1 e1 => ?_) (fun hc H1 e1 => ?_)
  · -- the digits
    have hx1 : 0 < x := of_decide_eq_true hc
    have hp1 := e1 _ _ hp
    refine ev_op (ev_var rfl) ev_c (rv_ixL (K := K) (sq_of hp1) i0) H1 (Ex.refl H1) _ fun H2 e2 => ?_
    refine ⟨.int b, rfl, x, b, rfl, divp_small hb hb2, fun t ht => ?_⟩
    have tp : p ≠ t := ne_of_none (e2 _ _ hp1) ht
    refine ⟨t, [.int (x / b), .int (x % b)], rfl, .inl (.inl upd_same), rfl, .int (x / b), [.int (x % b)], rfl, .ref p, rfl, p, [.int x, .int y], 0, 0, rfl, rfl, ?_, rfl, .int (x % b), [], rfl, rfl, .int (x % b), rfl, ?_⟩
    · rw [upd_ne tp]
      exact e2 _ _ hp1
    · refine q (x % b) _ (Int.emod_nonneg _ (by omega)) (Int.emod_lt_of_pos _ hb) ?_
      refine Drew.trans (H1 := upd H2 t (.tup [.int (x / b), .int (x % b)])) (Drew.of ⟨x, y, hp, hx, hy, hy2⟩ ((e1.trans e2).trans (Ex.new ht))) ?_
      exact Drew.set rfl (Int.ediv_nonneg hx (by omega)) hy hy2
  · have hp1 := e1 _ _ hp
    have m1 : 0 ≤ (y * 48271 + 10037) % 2147483587 ∧ (y * 48271 + 10037) % 2147483587 < 2147483587 := ⟨Int.emod_nonneg _ (by decide), Int.emod_lt_of_pos _ (by decide)⟩
    generalize ez : (y * 48271 + 10037) % 2147483587 = z at m1
    refine ev_op (z := .int ((y * 48271 + 10037) % 2147483587)) (ev_op (ev_op (ev_op (ev_var rfl) ev_c (rv_ixL (K := K) (sq_of hp1) (i1 y))) ev_c (rv_I (.inl ⟨by omega, by omega⟩))) ev_c rv_I0) ev_c (rv_I (by show (0 : Int) < 2147483587; decide)) H1 (Ex.refl H1) _ fun H2 e2 => ?_
    rw [ez]
    refine ⟨.ref p, rfl, p, [.int x, .int y], 1, 1, rfl, rfl, e2 _ _ hp1, rfl, ?_⟩
    have dr : Drew p H (upd H2 p (.lst [.int x, .int z])) := Drew.trans (H1 := H2) (Drew.of ⟨x, y, hp, hx, hy, hy2⟩ (e1.trans e2)) (Drew.set rfl hx m1.1 (by omega))
    have hp3 : (upd H2 p (.lst [.int x, .int z])) p = some (.lst [.int x, .int z]) := upd_same
    have ix : Ev (tOp (rIxL K) (tVar 0) (tC (.int 1))) [some (.ref p), some (.int b), none] (upd H2 p (.lst [.int x, .int z])) (.int z) := ev_op (ev_var rfl) ev_c (rv_ixL (sq_of hp3) (i1 z))
    refine s_ret (ev_op (ev_op (ev_op (ev_op ix ix (rv_I (.inl ⟨by omega, by omega⟩))) ev_c (rv_I (by show (0 : Int) < 2147483563; decide))) ev_c (rv_I ⟨by decide, by decide⟩)) (ev_var rfl) (rv_I (C := fun _ j => 0 < j) hb)) fun H3 e3 => ?_
    exact q _ H3 (Int.emod_nonneg _ (by omega)) (Int.emod_lt_of_pos _ hb) (dr.trans (Drew.of dr.pot e3))
theorem ok_choice {f : Addr} {fd : FuncData} {k : Nat} (F : Fun K "_law_choice" "_law_choice" sChoice f fd) (B : Blt mg) (D : Has P w K mg base k "_law_draw" ["_law_pot_here", "_law_bound"] spDraw) :
    FnG P w K mg base CX0 (k + 1) f fd ["_law_pot_here", "_law_options"] spChoice := by
  obtain ⟨fD, fdD, GD, bD, kD, gD⟩ := D.ex
  refine okG F scChoice (fun vs H Q E h => by obtain ⟨_, _, h⟩ := h; rcases h with ⟨_, _, rfl, _⟩ | ⟨_, rfl, _⟩ <;> rfl) (fun cdv A outer s H vs Q E hq hr h => ?_)
  obtain ⟨p, pot, h⟩ := h
  refine ⟨_, pss_one (ps_ret (pe_ix ix_seq (pv 1) (callG GD hq hr (by rfl) gD kD bD .nil pass0 (pa_cons (pv 0) (pa_cons (pe_callB call_len (by rfl) B.len bLen (pa_cons (pv 1) pa_nil)) pa_nil))) (fun _ _ => rfl))), ?_⟩
  have small : ∀ n : Nat, 0 < n → n ≤ 1000 → ((n : Int)).natAbs.log2 < 9000 := fun n h1 h2 => by
    have : (n : Int).natAbs = n := Int.natAbs_natCast n
    rw [this]
    have := (Nat.log2_lt (k := 10) (by omega)).mpr (show n < 2 ^ 10 by omega)
    omega
  rcases h with ⟨o, xs, rfl, ne, ho, h1, h2, q⟩ | ⟨z, rfl, h1, h2, q⟩
  · refine ⟨.ref o, rfl, .ref p, rfl, .ref o, rfl, .ref o, xs.length, rfl, .inl ⟨xs, sq_of ho, rfl⟩, p, (xs.length : Int), rfl, by omega, small _ h1 h2, pot, fun d H1 d0 d1 dr => ?_⟩
    obtain ⟨j, rfl⟩ := Int.eq_ofNat_of_zero_le d0
    have hj : j < xs.length := by omega
    exact .inl ⟨o, xs, (j : Int), xs[j], rfl, rfl, sq_of (dr.at ne ho), atI_nat (List.getElem?_eq_getElem hj), q _ H1 (List.getElem_mem hj) dr⟩
  · refine ⟨.str z, rfl, .ref p, rfl, .str z, rfl, .str z, z.length, rfl, ⟨sz_of (by omega), rfl⟩, p, (z.length : Int), rfl, by omega, small _ h1 h2, pot, fun d H1 d0 d1 dr => ?_⟩
    obtain ⟨j, rfl⟩ := Int.eq_ofNat_of_zero_le d0
    have hj : j < z.cps.toList.length := by
      have : z.cps.toList.length = z.length := by simp [Str.length]
      omega
    exact .inr (.inr ⟨z, (j : Int), z.cps.toList[j], rfl, rfl, sz_of (by omega), atI_nat (List.getElem?_eq_getElem hj), q _ H1 (List.getElem_mem hj) dr⟩)
end
end Cr
/-! what the top has left, gathered -/
namespace Cr
open PySem PySem.Spec PyProof.Rows L2 Evl
/-- a def of the top, as the head tells it -/
def DefAt (K : PySem.W.Frag) (x : Str) (st : Stmt) : Prop := ∃ (f : Addr) (od an : Option Addr) (sl : Array (Option Value)) (oc kV dc pm cd ct : Value),
  PySem.W.nsIn K mainGlobals x = some (some (.ref f)) ∧ K.lookup f = some ⟨oc, od, .func (PySem.W.fnOf x x (defArgs st) (defBody st) (defScope st) .none kV dc pm an cd ct), sl⟩ ∧ PySem.W.codeIn K cd x = true ∧ PySem.W.keepIn K (.ref f) = true
theorem defAt {K : PySem.W.Frag} {x : Str} {st : Stmt} {f : Addr} {od an : Option Addr} {sl : Array (Option Value)} {oc kV dc pm cd ct : Value} (a : PySem.W.nsIn K mainGlobals x = some (some (.ref f)))
    (l : K.lookup f = some ⟨oc, od, .func (PySem.W.fnOf x x (defArgs st) (defBody st) (defScope st) .none kV dc pm an cd ct), sl⟩) (c : PySem.W.codeIn K cd x = true) (k : PySem.W.keepIn K (.ref f) = true) : DefAt K x st :=
  ⟨f, od, an, sl, oc, kV, dc, pm, cd, ct, a, l, c, k⟩
/-- the binding of so many parameters -/
def BindsAll (x : Str) (st : Stmt) (ps : List Str) : Prop := ∀ (kV doc pm : Value) (an : Option Addr) (cdv ct : Value) (us : List Value), us.length = ps.length → bindArgs (PySem.W.fnOf x x (defArgs st) (defBody st) (defScope st) .none kV doc pm an cdv ct) ⟨us, []⟩ = pure (ps.zip us)
theorem has_mk {P : Program} {w : World} {K : PySem.W.Frag} {mg : Str → Option Value} {base h : Heap} {x : Str} {st : Stmt} {ps : List Str} {sp : Sp} {k : Nat} (X : K.In h) (G : h.Ns mainGlobals mg) (D : DefAt K x st) (hb : BindsAll x st ps)
    (ok : ∀ f fd, Fun K x x st f fd → FnG P w K mg base CX0 k f fd ps sp) : Has P w K mg base k x ps sp := by
  obtain ⟨f, od, an, sl, oc, kV, dc, pm, cd, ct, a, l, c, kp⟩ := D
  have F := fun_mk (st := st) l c kp
  exact ⟨⟨f, _, ok f _ F, F.binds hb, kp, PySem.W.mg_of X G a⟩⟩
theorem hasO_mk {P : Program} {w : World} {K : PySem.W.Frag} {mg : Str → Option Value} {base h : Heap} {x : Str} {st : Stmt} {ps : List Str} {sp : Sp} {k : Nat} (X : K.In h) (G : h.Ns mainGlobals mg) (D : DefAt K x st) (hb : BindsAll x st ps)
    (ok : ∀ f fd, Fun K x x st f fd → FnOk P w K mg base CX0 k f fd ps sp) : HasO P w K mg base k x ps sp := by
  obtain ⟨f, od, an, sl, oc, kV, dc, pm, cd, ct, a, l, c, kp⟩ := D
  have F := fun_mk (st := st) l c kp
  exact ⟨⟨f, _, ok f _ F, F.binds hb, kp, PySem.W.mg_of X G a⟩⟩
theorem hasE_mk {P : Program} {w : World} {K : PySem.W.Frag} {mg : Str → Option Value} {base h : Heap} {x : Str} {st : Stmt} {ps : List Str} {sp : Sp} {k : Nat} (X : K.In h) (G : h.Ns mainGlobals mg) (D : DefAt K x st) (hb : BindsAll x st ps)
    (ok : ∀ f fd, Fun K x x st f fd → FnOk P w K mg base (L2.CX P w) k f fd ps sp) : HasE P w K mg base k x ps sp := by
  obtain ⟨f, od, an, sl, oc, kV, dc, pm, cd, ct, a, l, c, kp⟩ := D
  have F := fun_mk (st := st) l c kp
  exact ⟨⟨f, _, ok f _ F, F.binds hb, kp, PySem.W.mg_of X G a⟩⟩
theorem Has.up {P : Program} {w : World} {K : PySem.W.Frag} {mg : Str → Option Value} {base : Heap} {x : Str} {ps : List Str} {sp : Sp} {j k : Nat} (h : Has P w K mg base j x ps sp) (le : j ≤ k) : Has P w K mg base k x ps sp := by
  obtain ⟨f, fd, G, b, kp, g⟩ := h.ex
  exact ⟨⟨f, fd, G.up le, b, kp, g⟩⟩
theorem HasC.up {P : Program} {w : World} {K : PySem.W.Frag} {mg : Str → Option Value} {base : Heap} {C : Addr} {j k : Nat} (h : HasC P w K mg base j C) (le : j ≤ k) : HasC P w K mg base k C := by
  obtain ⟨f, fd, G, b, b2, kp, g⟩ := h.ex
  exact ⟨⟨f, fd, fnUp G le, b, b2, kp, g⟩⟩
/-! ### tuples and the table of the top -/
theorem ktupV {K : PySem.W.Frag} {a : Addr} {xs : List Str} {its : List Value} {dd : Option Addr} {sl : Array (Option Value)} {n : Nat} (l : K.lookup a = some ⟨.type "tuple", dd, .seq its.toArray n, sl⟩) (v : Vals (xs.map V.str) its) (hz : xs.length ≤ 10) : KTup K a (xs.map V.str) := by
  refine ⟨_, _, _, l, rfl, rfl, ?_, by simpa using v⟩
  have := v.length
  rw [List.length_map] at this
  rw [List.size_toArray, ← this]
  exact sz_of (by omega)
theorem ktup0 {K : PySem.W.Frag} {a : Addr} {dd : Option Addr} {sl : Array (Option Value)} {n : Nat} (l : K.lookup a = some ⟨.type "tuple", dd, .seq #[] n, sl⟩) : KTup K a (([] : List Str).map V.str) := ktupV (xs := ([] : List Str)) l .nil (by show 0 ≤ 10; decide)
theorem ktup1 {K : PySem.W.Frag} {a : Addr} {x1 : Str} {t1 : Tok} {dd : Option Addr} {sl : Array (Option Value)} {n : Nat} (l : K.lookup a = some ⟨.type "tuple", dd, .seq #[.str x1 t1] n, sl⟩) : KTup K a (([x1] : List Str).map V.str) := ktupV (xs := ([x1] : List Str)) l (.cons ⟨t1, rfl⟩ .nil) (by show 1 ≤ 10; decide)
theorem ktup2 {K : PySem.W.Frag} {a : Addr} {x1 x2 : Str} {t1 t2 : Tok} {dd : Option Addr} {sl : Array (Option Value)} {n : Nat} (l : K.lookup a = some ⟨.type "tuple", dd, .seq #[.str x1 t1, .str x2 t2] n, sl⟩) : KTup K a (([x1, x2] : List Str).map V.str) := ktupV (xs := ([x1, x2] : List Str)) l (.cons ⟨t1, rfl⟩ (.cons ⟨t2, rfl⟩ .nil)) (by show 2 ≤ 10; decide)
theorem ktup3 {K : PySem.W.Frag} {a : Addr} {x1 x2 x3 : Str} {t1 t2 t3 : Tok} {dd : Option Addr} {sl : Array (Option Value)} {n : Nat} (l : K.lookup a = some ⟨.type "tuple", dd, .seq #[.str x1 t1, .str x2 t2, .str x3 t3] n, sl⟩) : KTup K a (([x1, x2, x3] : List Str).map V.str) := ktupV (xs := ([x1, x2, x3] : List Str)) l (.cons ⟨t1, rfl⟩ (.cons ⟨t2, rfl⟩ (.cons ⟨t3, rfl⟩ .nil))) (by show 3 ≤ 10; decide)
theorem ktup4 {K : PySem.W.Frag} {a : Addr} {x1 x2 x3 x4 : Str} {t1 t2 t3 t4 : Tok} {dd : Option Addr} {sl : Array (Option Value)} {n : Nat} (l : K.lookup a = some ⟨.type "tuple", dd, .seq #[.str x1 t1, .str x2 t2, .str x3 t3, .str x4 t4] n, sl⟩) : KTup K a (([x1, x2, x3, x4] : List Str).map V.str) := ktupV (xs := ([x1, x2, x3, x4] : List Str)) l (.cons ⟨t1, rfl⟩ (.cons ⟨t2, rfl⟩ (.cons ⟨t3, rfl⟩ (.cons ⟨t4, rfl⟩ .nil)))) (by show 4 ≤ 10; decide)
theorem nsIn_dict {K : PySem.W.Frag} {d : Addr} {oc : Value} {od : Option Addr} {es : List DictEntry} {n : Nat} {sl : Array (Option Value)} {z : Str} (l : K.lookup d = some ⟨oc, od, .dict es.toArray n, sl⟩) (any : es.any (·.refKey) = false) :
    PySem.W.nsIn K d z = some ((es.find? (·.key.isStr z)).map (·.val)) := by
  unfold PySem.W.nsIn
  rw [l]
  show (match es.find? (·.key.isStr z) with | some e => some (some e.val) | none => if es.any (·.refKey) = true then none else some none) = _
  rw [any]
  cases es.find? (·.key.isStr z) <;> rfl
theorem find_str {z k : Str} {h : Int} {t : Tok} {v : Value} {r : List DictEntry} : (⟨h, .str k t, v⟩ :: r : List DictEntry).find? (·.key.isStr z) = if z = k then some ⟨h, .str k t, v⟩ else r.find? (·.key.isStr z) := by
  rw [List.find?_cons]
  by_cases e : z = k
  · subst e
    rw [if_pos rfl, show (Value.str z t).isStr z = true by simp [Value.isStr]]
  · rw [if_neg e, show (Value.str k t).isStr z = false by simp [Value.isStr]; exact fun q => e q.symm]
theorem shapes_mk {K : PySem.W.Frag} {w : World} {dS : Addr} {n : Nat} {h1 h2 h3 h4 h5 h6 h7 h8 : Int} {t1 t2 t3 t4 t5 t6 t7 t8 : Tok} {a1 a2 a3 a4 a5 a6 a7 a8 : Addr}
    (l : K.lookup dS = some ⟨.type "dict", none, .dict #[⟨h1, .str "set" t1, .ref a1⟩, ⟨h2, .str "add" t2, .ref a2⟩, ⟨h3, .str "skip" t3, .ref a3⟩, ⟨h4, .str "export" t4, .ref a4⟩, ⟨h5, .str "read" t5, .ref a5⟩, ⟨h6, .str "need" t6, .ref a6⟩, ⟨h7, .str "try" t7, .ref a7⟩, ⟨h8, .str "fail" t8, .ref a8⟩] n, #[]⟩)
    (e1 : h1 = PyData.keyHash w.params "set") (e2 : h2 = PyData.keyHash w.params "add") (e3 : h3 = PyData.keyHash w.params "skip") (e4 : h4 = PyData.keyHash w.params "export") (e5 : h5 = PyData.keyHash w.params "read") (e6 : h6 = PyData.keyHash w.params "need") (e7 : h7 = PyData.keyHash w.params "try") (e8 : h8 = PyData.keyHash w.params "fail")
    (low : (dS == sysModules) = false)
    (k1 : KTup K a1 ((["variable", "integer"] : List Str).map V.str)) (k2 : KTup K a2 ((["variable", "variable"] : List Str).map V.str)) (k3 : KTup K a3 ((["variable", "length"] : List Str).map V.str)) (k4 : KTup K a4 ((["name", "variable"] : List Str).map V.str))
    (k5 : KTup K a5 ((["variable", "module", "name"] : List Str).map V.str)) (k6 : KTup K a6 ((["module"] : List Str).map V.str)) (k7 : KTup K a7 ((["module", "variable"] : List Str).map V.str)) (k8 : KTup K a8 (([] : List Str).map V.str)) :
    ∃ es, Shapes K w dS es n := by
  refine ⟨_, ⟨l, ?_, low⟩, fun z hz => ?_, fun z ks hz => ?_⟩
  · exact ⟨⟨_, _, rfl, e1⟩, ⟨_, _, rfl, e2⟩, ⟨_, _, rfl, e3⟩, ⟨_, _, rfl, e4⟩, ⟨_, _, rfl, e5⟩, ⟨_, _, rfl, e6⟩, ⟨_, _, rfl, e7⟩, ⟨_, _, rfl, e8⟩, trivial⟩
  all_goals
    have ns := nsIn_dict (z := z) l (by rfl)
    rw [find_str, find_str, find_str, find_str, find_str, find_str, find_str, find_str] at ns
    rw [ns]
    clear ns
    unfold shapeOf at hz
  · by_cases c1 : z = "set"
    · rw [if_pos c1] at hz; cases hz
    by_cases c2 : z = "add"
    · rw [if_neg c1, if_pos c2] at hz; cases hz
    by_cases c3 : z = "skip"
    · rw [if_neg c1, if_neg c2, if_pos c3] at hz; cases hz
    by_cases c4 : z = "export"
    · rw [if_neg c1, if_neg c2, if_neg c3, if_pos c4] at hz; cases hz
    by_cases c5 : z = "read"
    · rw [if_neg c1, if_neg c2, if_neg c3, if_neg c4, if_pos c5] at hz; cases hz
    by_cases c6 : z = "need"
    · rw [if_neg c1, if_neg c2, if_neg c3, if_neg c4, if_neg c5, if_pos c6] at hz; cases hz
    by_cases c7 : z = "try"
    · rw [if_neg c1, if_neg c2, if_neg c3, if_neg c4, if_neg c5, if_neg c6, if_pos c7] at hz; cases hz
    by_cases c8 : z = "fail"
    · rw [if_neg c1, if_neg c2, if_neg c3, if_neg c4, if_neg c5, if_neg c6, if_neg c7, if_pos c8] at hz; cases hz
    rw [if_neg c1, if_neg c2, if_neg c3, if_neg c4, if_neg c5, if_neg c6, if_neg c7, if_neg c8]
    rfl
  · by_cases c1 : z = "set"
    · rw [if_pos c1] at hz ⊢; cases hz; exact ⟨a1, rfl, k1⟩
    by_cases c2 : z = "add"
    · rw [if_neg c1, if_pos c2] at hz ⊢; cases hz; exact ⟨a2, rfl, k2⟩
    by_cases c3 : z = "skip"
    · rw [if_neg c1, if_neg c2, if_pos c3] at hz ⊢; cases hz; exact ⟨a3, rfl, k3⟩
    by_cases c4 : z = "export"
    · rw [if_neg c1, if_neg c2, if_neg c3, if_pos c4] at hz ⊢; cases hz; exact ⟨a4, rfl, k4⟩
    by_cases c5 : z = "read"
    · rw [if_neg c1, if_neg c2, if_neg c3, if_neg c4, if_pos c5] at hz ⊢; cases hz; exact ⟨a5, rfl, k5⟩
    by_cases c6 : z = "need"
    · rw [if_neg c1, if_neg c2, if_neg c3, if_neg c4, if_neg c5, if_pos c6] at hz ⊢; cases hz; exact ⟨a6, rfl, k6⟩
    by_cases c7 : z = "try"
    · rw [if_neg c1, if_neg c2, if_neg c3, if_neg c4, if_neg c5, if_neg c6, if_pos c7] at hz ⊢; cases hz; exact ⟨a7, rfl, k7⟩
    by_cases c8 : z = "fail"
    · rw [if_neg c1, if_neg c2, if_neg c3, if_neg c4, if_neg c5, if_neg c6, if_neg c7, if_pos c8] at hz ⊢; cases hz; exact ⟨a8, rfl, k8⟩
    rw [if_neg c1, if_neg c2, if_neg c3, if_neg c4, if_neg c5, if_neg c6, if_neg c7, if_neg c8] at hz
    cases hz
/-- a def with is_main by its name alone, False where it lacks -/
def DefKw (K : PySem.W.Frag) (x : Str) (st : Stmt) : Prop := ∃ (f D : Addr) (od an : Option Addr) (sl : Array (Option Value)) (oc dc pm cd ct : Value),
  PySem.W.nsIn K mainGlobals x = some (some (.ref f)) ∧ K.lookup f = some ⟨oc, od, .func (PySem.W.fnOf x x (defArgs st) (defBody st) (defScope st) .none (.ref D) dc pm an cd ct), sl⟩ ∧ PySem.W.codeIn K cd x = true ∧ PySem.W.keepIn K (.ref f) = true ∧ PySem.W.nsIn K D "is_main" = some (some (.bool false))
theorem defKw {K : PySem.W.Frag} {x : Str} {st : Stmt} {f D : Addr} {od an : Option Addr} {sl : Array (Option Value)} {oc dc pm cd ct : Value} (a : PySem.W.nsIn K mainGlobals x = some (some (.ref f)))
    (l : K.lookup f = some ⟨oc, od, .func (PySem.W.fnOf x x (defArgs st) (defBody st) (defScope st) .none (.ref D) dc pm an cd ct), sl⟩) (c : PySem.W.codeIn K cd x = true) (k : PySem.W.keepIn K (.ref f) = true) (m : PySem.W.nsIn K D "is_main" = some (some (.bool false))) : DefKw K x st :=
  ⟨f, D, od, an, sl, oc, dc, pm, cd, ct, a, l, c, k, m⟩
/-! ### methods -/
def MethAt (K : PySem.W.Frag) (C : Addr) (m qual : Str) (st : Stmt) : Prop := ∃ (f : Addr) (od an : Option Addr) (sl : Array (Option Value)) (oc kV dc pm cd ct : Value),
  PySem.W.findIn K (.ref C) m = some (some (.ref f)) ∧ PySem.W.isFn K (.ref f) = true ∧ K.lookup f = some ⟨oc, od, .func (PySem.W.fnOf m qual (defArgs st) (defBody st) (defScope st) .none kV dc pm an cd ct), sl⟩ ∧ PySem.W.codeIn K cd qual = true ∧ PySem.W.keepIn K (.ref f) = true ∧ PySem.W.typeIn K (.ref f) = some (.type "function")
theorem methAt {K : PySem.W.Frag} {C : Addr} {m qual : Str} {st : Stmt} {f : Addr} {od an : Option Addr} {sl : Array (Option Value)} {oc kV dc pm cd ct : Value} (a : PySem.W.findIn K (.ref C) m = some (some (.ref f))) (i : PySem.W.isFn K (.ref f) = true)
    (l : K.lookup f = some ⟨oc, od, .func (PySem.W.fnOf m qual (defArgs st) (defBody st) (defScope st) .none kV dc pm an cd ct), sl⟩) (c : PySem.W.codeIn K cd qual = true) (k : PySem.W.keepIn K (.ref f) = true) (t : PySem.W.typeIn K (.ref f) = some (.type "function")) : MethAt K C m qual st :=
  ⟨f, od, an, sl, oc, kV, dc, pm, cd, ct, a, i, l, c, k, t⟩
def BindsM (m qual : Str) (st : Stmt) (ps : List Str) : Prop := ∀ (kV doc pm : Value) (an : Option Addr) (cdv ct : Value) (us : List Value), us.length = ps.length → bindArgs (PySem.W.fnOf m qual (defArgs st) (defBody st) (defScope st) .none kV doc pm an cdv ct) ⟨us, []⟩ = pure (ps.zip us)
theorem hasM_mk {P : Program} {w : World} {K : PySem.W.Frag} {mg : Str → Option Value} {base : Heap} {CX : CXT} {C : Addr} {m qual : Str} {st : Stmt} {ps : List Str} {sp : Sp} {k : Nat} (D : MethAt K C m qual st) (hb : BindsM m qual st ps)
    (ok : ∀ f fd, Fun K m qual st f fd → FnOk P w K mg base CX k f fd ps sp) : HasM P w K mg base CX k C m ps sp := by
  obtain ⟨f, od, an, sl, oc, kV, dc, pm, cd, ct, a, i, l, c, kp, t⟩ := D
  have F := fun_mk (st := st) l c kp
  exact ⟨⟨f, _, ok f _ F, F.binds hb, a, i, kp⟩⟩
/-! ### own errors -/
def ErrK (P : Program) (K : PySem.W.Frag) (C : Addr) (b : XB) (qual fld : Str) (st : Stmt) : Prop := ∃ (fI cda cc : Addr) (oc : Value) (od an : Option Addr) (kV doc pm ct : Value) (osl : Array (Option Value)),
  K.lookup fI = some ⟨oc, od, .func (PySem.W.ksFn "__init__" qual (defArgs st) (defBody st) (defScope st) .none kV doc pm an (.ref cda) ct cc), osl⟩ ∧ PySem.W.codeIn K (.ref cda) qual = true ∧ SupG P K C cda cc b ∧
  PySem.W.findIn K (.ref C) "__init__" = some (some (.ref fI)) ∧ PySem.W.typeIn K (.ref fI) = some (.type "function") ∧ PySem.W.findIn K (.ref C) fld = some none
theorem errK {P : Program} {K : PySem.W.Frag} {C fI cda cc : Addr} {b : XB} {qual fld : Str} {st : Stmt} {oc : Value} {od an : Option Addr} {kV doc pm ct : Value} {osl : Array (Option Value)} (i : PySem.W.findIn K (.ref C) "__init__" = some (some (.ref fI)))
    (l : K.lookup fI = some ⟨oc, od, .func (PySem.W.ksFn "__init__" qual (defArgs st) (defBody st) (defScope st) .none kV doc pm an (.ref cda) ct cc), osl⟩) (c : PySem.W.codeIn K (.ref cda) qual = true) (s : SupG P K C cda cc b)
    (t : PySem.W.typeIn K (.ref fI) = some (.type "function")) (p : PySem.W.findIn K (.ref C) fld = some none) : ErrK P K C b qual fld st := ⟨fI, cda, cc, oc, od, an, kV, doc, pm, ct, osl, l, c, s, i, t, p⟩
theorem oexG_mk {K : PySem.W.Frag} {C : Addr} {b : XB} {nm q : Str} {N : Addr} {bs bm : List Value} {sn : List Str} {sub : List Value} {ab : Bool} {col : Option Bool} {dd : Option Addr} {k0 k1 k2 k3 k5 : Option Value} (ok : b.Ok)
    (l : K.lookup C = some (excClassObj nm q C N bs bm true sn sub ab col dd k0 k1 k2 k3 k5 b.nw)) (m : downTo b.tl bm = true) (sa : PySem.W.findIn K (.ref C) "__setattr__" = some (some (.builtin "object.__setattr__")))
    (ex : PySem.W.subIn K (.ref C) (.type "BaseException") = some true) (ty : PySem.W.typeIn K (.ref C) = some (.type "type")) (kC : PySem.W.keepIn K (.ref C) = true) : OexG K C b :=
  ⟨ok, ⟨nm, q, N, bs, bm, sn, sub, ab, col, dd, k0, k1, k2, k3, k5, l, m⟩, sa, ex, ty, kC⟩
theorem supG_mk {P : Program} {K : PySem.W.Frag} {C cda cc : Addr} {b : XB} {ccl : Value} {cdd : Option Addr} {cvs : Array Value} {ccs : Array (Option Value)} {file : Str} {tf : Tok} {cl : Value} {cld : Option Addr} {csl : Array (Option Value)} (o : OexG K C b)
    (a : K.lookup cda = some ⟨ccl, cdd, .fields cvs, ccs⟩) (f2 : cvs[2]? = some (.str file tf)) (c : ((P.main.file : Str) == file) = true) (d : K.lookup cc = some ⟨cl, cld, .cell (some (.ref C)), csl⟩) (e : PySem.W.mroIn K C (.ref C) = some true)
    (f : PySem.W.nsIn K cStatics "thirdparty.any" = some none) (g : PySem.W.ks_superIn K C C "__init__" = some (some (.builtin b.ini))) (h : PySem.W.subIn K (.ref C) (.type b.B) = some true) (i : (P.main.scope.names.lookup ("super" : Str)).isSome = false) : SupG P K C cda cc b :=
  ⟨o, ⟨ccl, cdd, cvs, ccs, file, tf, a, f2, c⟩, ⟨cl, cld, csl, d⟩, e, f, g, h, i⟩
theorem errAt_of {P : Program} {K : PySem.W.Frag} {mg : Str → Option Value} {h : Heap} {C : Addr} {b : XB} {cn qual fld : Str} {st : Stmt} (X : K.In h) (G : h.Ns mainGlobals mg) (c : PySem.W.nsIn K mainGlobals cn = some (some (.ref C))) (e : ErrK P K C b qual fld st) : ∃ fI fd, ErrAt P K mg C fI fd b cn qual fld st := by
  obtain ⟨fI, cda, cc, oc, od, an, kV, doc, pm, ct, osl, l, cd, s, i, t, p⟩ := e
  exact ⟨fI, _, ⟨cda, cc, oc, od, an, kV, doc, pm, ct, osl, rfl, l, cd, s⟩, i, t, p, PySem.W.mg_of X G c⟩
end Cr
/-! o.m(k = v): a method called by keywords alone -/
namespace Cr
open PySem PySem.Spec PyProof.Rows L2 Evl
def tMethK (C : Addr) (m : Str) (n : Nat) (sp : Sp) (gV : List V → List V → List V) (E : L2.St → XK) (ta : TE) (tk : TA) : TE := fun σ H Q => ta σ H fun x H1 => ∃ a dx fs, x = .ref a ∧ H1 a = some (.ins C dx fs) ∧ fs.lookup m = none ∧ tk σ H1 fun zs H2 => zs.length = n ∧ sp (gV [x] zs) H2 Q (E σ)
section
variable {X : Cx} {CX : CXT} {k : Nat} {f C : Addr} {fd : FuncData} {ps ks : List Str} {sp : Sp} {E : L2.St → XK} {m : Str} {pos apos : Pos} {o : Expr} {kws : List Keyword} {ta : TE} {tk : TA} {g : List Value → List Value → List Value} {gV : List V → List V → List V}
theorem methK0 {pl : Sem Bool} (he : PE X o ta) (c : Cls X.K C) (hm : Meth X.K C m f) (F : FnOk X.prog X.w X.K X.mg X.base CX k f fd ps sp) (hr : Room k X.A) (hb : KBn X.K fd ps 1 ks g gV) (hx : ∀ σ, PassesAt CX X σ (E σ)) (hkw : PK X kws tk)
    (hall : (backToKw pos (keywordEach kws X.env)).all (·.1.isSome) = true := by rfl) (hks : (backToKw pos (keywordEach kws X.env)).filterMap (·.1) = ks := by rfl)
    (hpl : ((backTo pos (starEach [] X.env)).any (·.1) || (backToKw pos (keywordEach kws X.env)).any (·.1.isNone)) = false := by rfl)
    (ht : eval (.Call (.Attribute o m apos) [] kws pos) X.env = (do
      let ov ← eval o X.env
      standAt apos.atName
      let (f, first) ← holding [ov] (getMethod ov m pl)
      callWith pos f first (backTo pos (starEach [] X.env)) (backToKw pos (keywordEach kws X.env))) := by rfl) : PE X (.Call (.Attribute o m apos) [] kws pos) (tMethK C m ks.length sp gV E ta tk) := by
  constructor
  intro pins s σ H Q I h
  refine PySem.W.methodCall_KW (pl := pl) (thn (he.run pins s σ H _ I h) ?_) ht
  rintro u s1 ⟨x, H1, I1, rx, a, dx, fs, rfl, ea, l, q⟩
  obtain rfl : u = Value.ref a := rx
  refine getmeth_ok I1 ea c hm l ?_
  refine PySem.W.callWith_KW0 (first := [.ref a]) (h₀ := X.base) I.ok.mod.kin hm.kp hall (thn (hkw.run pos pins s1 σ H1 _ I1 q) ?_) hpl
  rintro ws s2 ⟨zs, H2, I2, rz, l2, q2⟩
  refine ⟨I2.kIn, ?_⟩
  rw [hks]
  have one : Vals [V.ref a] [Value.ref a] := .cons rfl .nil
  have rel := hb.rel one rz
  refine wpAny_call (codeAny_mono (F.run X.A X.stack s2 H2 ⟨[.ref a] ++ [], ks.zip ws⟩ (g [.ref a] ws) (gV [.ref a] zs) Q (E σ) hr I2.env0 (hb.to s2 [.ref a] ws I2.kIn rfl (rz.length.symm.trans l2)) rel q2) fun r s' hq' => ?_)
  exact endG (args := ⟨[], []⟩) (hx σ) I2 hq'
end
end Cr
/-! frames: pass_step -/
namespace Cr
open PySem PySem.Spec PyProof.Rows L2 Evl
abbrev sGiven : Stmt := topS 32
abbrev sFPass : Stmt := inClass (topS 33) 9
abbrev nFPass : List Str := ["self", "value", "step", "variable"]
theorem scGiven : FnScope ["step"] ["step"] (defScope sGiven) := ⟨rfl, rfl, rfl, by decide +kernel, rfl, by decide +kernel, by decide +kernel⟩
theorem scFPass : FnScope nFPass ["self", "value"] (defScope sFPass) := ⟨rfl, rfl, rfl, by decide +kernel, rfl, by decide +kernel, by decide +kernel⟩
inductive OtherV : List V → Prop
  | exp {n x : Str} : OtherV [.str "export", .str n, .str x]
  | read {x m n : Str} (h : isVar (.str x) = true) : OtherV [.str "read", .str x, .str m, .str n]
  | need {m : Str} : OtherV [.str "need", .str m]
  | try_ {m x : Str} (h : isVar (.str x) = true) : OtherV [.str "try", .str m, .str x]
  | fail : OtherV [.str "fail"]
/-- the variable that gets a value -/
def givenX (us : List V) : Option Str :=
  match us with
  | [.str _, .str x, .str _, .str _] => some x
  | [.str z, .str _, .str x] => if z = "try" then some x else none
  | _ => none
theorem given_try {m x : Str} : givenX [.str "try", .str m, .str x] = some x := by
  show (if ("try" : Str) = "try" then some x else none) = some x
  rw [if_pos rfl]
theorem given_exp {m x : Str} : givenX [.str "export", .str m, .str x] = none := by
  show (if ("export" : Str) = "try" then some x else none) = none
  rw [if_neg (by decide +kernel)]
theorem kinds8 {z : Str} {ks : List Str} (h : shapeOf z = some ks) : (z = "set" ∨ z = "add" ∨ z = "skip") ∨ z = "export" ∨ z = "read" ∨ z = "need" ∨ z = "try" ∨ z = "fail" := by
  unfold shapeOf at h
  repeat' split at h
  all_goals first
    | (rename_i e; simp [e]; done)
    | cases h
theorem other_of {us : List V} (h : StepV us) (hp : isPlain (.tuple (us.map flD)) = false) : OtherV us := by
  have hs := h.step
  have hb := h.bare
  unfold isPlain at hp
  rw [hs, Bool.true_and] at hp
  have str1 : ∀ {v : V}, isVar (flD v) = true → ∃ x, v = .str x := fun {v} h => by
    cases v with
    | str x => exact ⟨x, rfl⟩
    | _ => exact nomatch h
  have nam1 : ∀ {v : V}, isName (flD v) = true → ∃ x, v = .str x := fun {v} h => by
    cases v with
    | str x => exact ⟨x, rfl⟩
    | _ => exact nomatch h
  cases us with
  | nil => exact nomatch hs
  | cons v0 us =>
    cases v0 with
    | str z =>
      have hs' : isStep (.tuple (.str z :: us.map flD)) = true := hs
      obtain ⟨ks, hk⟩ : ∃ ks, shapeOf z = some ks := by
        cases e : shapeOf z with
        | some ks => exact ⟨ks, rfl⟩
        | none =>
          have zz : isStep (.tuple (.str z :: us.map flD)) = false := by
            show (match shapeOf z with | some ks => _ | none => false) = false
            rw [e]
          rw [zz] at hs'
          cases hs'
      have hp' : (plain3.any fun y => y == z) = false := hp
      have len : ∀ {ks : List Str}, shapeOf z = some ks → us.length = ks.length ∧ stepItems (us.map flD) ks = true := fun {ks} e => by
        rw [isStep_eq e] at hs'
        obtain ⟨a1, a2⟩ := Bool.and_eq_true_iff.mp hs'
        have := of_decide_eq_true a1
        rw [List.length_map] at this
        exact ⟨this, a2⟩
      rcases kinds8 hk with hz | rfl | rfl | rfl | rfl | rfl
      · rcases hz with rfl | rfl | rfl <;> exact absurd hp' (by decide +kernel)
      · obtain ⟨l, it⟩ := len sh_export
        match us, l with
        | [a, b], _ =>
          rw [List.map_cons, List.map_cons, List.map_nil, items2, it_name, it_var] at it
          obtain ⟨c1, c2⟩ := Bool.and_eq_true_iff.mp it
          obtain ⟨x, rfl⟩ := nam1 c1
          obtain ⟨y, rfl⟩ := str1 c2
          exact .exp
      · obtain ⟨l, it⟩ := len sh_read
        match us, l with
        | [a, b, c], _ =>
          rw [List.map_cons, List.map_cons, List.map_cons, List.map_nil, items3, it_var, it_mod, it_name] at it
          obtain ⟨c1, c23⟩ := Bool.and_eq_true_iff.mp it
          obtain ⟨c2, c3⟩ := Bool.and_eq_true_iff.mp c23
          obtain ⟨x, rfl⟩ := str1 c1
          obtain ⟨y, rfl⟩ := nam1 c2
          obtain ⟨u, rfl⟩ := nam1 c3
          exact .read c1
      · obtain ⟨l, it⟩ := len sh_need
        match us, l with
        | [a], _ =>
          rw [List.map_cons, List.map_nil, items1, it_mod] at it
          obtain ⟨x, rfl⟩ := nam1 it
          exact .need
      · obtain ⟨l, it⟩ := len sh_try
        match us, l with
        | [a, b], _ =>
          rw [List.map_cons, List.map_cons, List.map_nil, items2, it_mod, it_var] at it
          obtain ⟨c1, c2⟩ := Bool.and_eq_true_iff.mp it
          obtain ⟨x, rfl⟩ := nam1 c1
          obtain ⟨y, rfl⟩ := str1 c2
          exact .try_ c2
      · obtain ⟨l, it⟩ := len sh_fail
        match us, l with
        | [], _ => exact .fail
    | _ =>
      rw [List.all_cons] at hb
      first
        | exact nomatch hs
        | exact nomatch hb
theorem given_var {us : List V} {x : Str} (h : OtherV us) (e : givenX us = some x) : isVar (.str x) = true := by
  cases h with
  | exp => rw [given_exp] at e; cases e
  | read h => cases e; exact h
  | need => cases e
  | try_ h => rw [given_try] at e; cases e; exact h
  | fail => cases e
def varV : Option Str → V
  | some x => .str x
  | none => .non
def memoO (us : List V) (i : Int) (m : M4) : M4 :=
  match givenX us with
  | some x => m.set x i
  | none => m
def spGiven : Sp := fun vs H Q _ => ∃ (t : Addr) (us : List V), vs = [.ref t] ∧ H t = some (.tup us) ∧ OtherV us ∧ ∀ H', Ex H H' → Q (varV (givenX us)) H'
def isNoneD : PyData → Bool
  | .none => true
  | _ => false
/-- is the value right for the step -/
def rightV (us : List V) (d : PyData) : Bool :=
  match givenX us with
  | some _ => isInteger d
  | none => isNoneD d
def intOf : PyData → Int
  | .int i => i
  | _ => 0
def spPass (C CW CN : Addr) : Sp := fun vs H Q E => ∃ (p : Addr) (v : V) (dv : PyData) (A : FrA) (vss : List (List V)) (pos : Nat) (m : M4) (n : Nat), vs = [.ref p, v] ∧ Dt H v dv ∧ sm dv = true ∧ FrameAt C H p A vss pos m n ∧ (vss.length ≤ 900 ∧ n ≤ 900) ∧ pos ≤ vss.length ∧ (∀ us ∈ vss, StepV us) ∧
  (∀ us H', vss[pos]? = some us → OtherV us → rightV us dv = true → FrameAt C H' p A vss (pos + 1) (memoO us (intOf dv) m) (n + 1) → But (own p A) H H' → Q .non H') ∧
  ((vss[pos]? = none ∨ isPlain (nextD vss pos) = true) → ∀ dx H', H dx = none → Ex H H' → H' dx = some (.xd [("position", .int (pos : Int))]) → E (.ref CW) (some dx) H') ∧
  (∀ us H', vss[pos]? = some us → OtherV us → rightV us dv = false → Ex H H' → E (.ref CN) none H')
/-- InvalidNumber, raised with words alone -/
structure NumC (K : PySem.W.Frag) (mg : Str → Option Value) (C : Addr) : Prop where
  at_ : mg "InvalidNumber" = some (.ref C)
  exc : PySem.W.excIn K C [.type "ValueError", .type "Exception", .type "BaseException", .type "object"] "ValueError.__new__" = true
  kp : PySem.W.keepIn K (.ref C) = true
  sub : PySem.W.subIn K (.ref C) (.type "BaseException") = some true
  ty : PySem.W.typeIn K (.ref C) = some (.type "type")
section
variable {P : Program} {w : World} {K : PySem.W.Frag} {mg : Str → Option Value} {base : Heap}
theorem ok_given {f : Addr} {fd : FuncData} {k : Nat} (F : Fun K "given_variable" "given_variable" sGiven f fd) : FnOk P w K mg base CX0 (k + 1) f fd ["step"] spGiven := by
  refine F.ok scGiven (fun vs H Q E h => by obtain ⟨_, _, rfl, _⟩ := h; rfl) (fun cdv A outer s H vs Q E hr h => ?_)
  obtain ⟨t, us, rfl, hT, ov, q⟩ := h
  refine ⟨_, pss_cons (ps_if (pt_cmpR op_eq (pe_ix ix_tup (pv 0) pe_int (fun _ _ => rfl)) pe_str (nomark _)) (pss_one (ps_ret (pe_ix ix_tup (pv 0) pe_int (fun _ _ => rfl)))) pss_nil)
    (pss_one (ps_ret (pe_ifExp (pt_cmpR op_eq (pe_ix ix_tup (pv 0) pe_int (fun _ _ => rfl)) pe_str (nomark _)) (pe_ix ix_tup (pv 0) pe_int (fun _ _ => rfl)) pe_non))), ?_⟩
  have ix : ∀ {H' : Hp} {j : Nat} {v : V}, Ex H H' → us[j]? = some v → Ev (tOp (rIxT K) (tVar 0) (tC (.int (j : Int)))) (L2.start ["step"] [.ref t]) H' v := fun e h => ev_op (ev_var rfl) ev_c (rv_ixT (st_of (e _ _ hT)) (atI_nat h))
  have none_ : ∀ {z : Str}, us[0]? = some (.str z) → decide (V.str z = V.str "read") = false → decide (V.str z = V.str "try") = false → givenX us = none → tSeq (tIfS (tTest (tOp rEq (tOp (rIxT K) (tVar 0) (tC (.int 0))) (tC (.str "read")))) (tRet (tOp (rIxT K) (tVar 0) (tC (.int 1)))) tNext) (tRet (tIf (tTest (tOp rEq (tOp (rIxT K) (tVar 0) (tC (.int 0))) (tC (.str "try")))) (tOp (rIxT K) (tVar 0) (tC (.int 2))) (tC .non))) { nx := fun _ H' => Q .non H', rt := Q } (L2.start ["step"] [.ref t]) H := fun {z} h0 n1 n2 g => by
    refine q_when (b := false) (et_is (et_test (ev_op (ix (j := 0) (Ex.refl _) h0) ev_c (rv_eq rfl))) n1) (fun z => nomatch z) (fun _ H1 e1 => ?_)
    refine s_ret (v := .non) (ev_if (b := false) (et_is (et_test (ev_op (ix (j := 0) e1 h0) ev_c (rv_eq rfl))) n2) (fun z => nomatch z) fun _ => ev_c) fun H2 e2 => ?_
    have g2 := q H2 (e1.trans e2)
    rw [g] at g2
    exact g2
  cases ov with
  | exp => exact none_ rfl (by decide +kernel) (by decide +kernel) given_exp
  | need => exact none_ rfl (by decide +kernel) (by decide +kernel) rfl
  | fail => exact none_ rfl (by decide +kernel) (by decide +kernel) rfl
  | @read x m n hx =>
    exact q_when (b := true) (et_is (et_test (ev_op (ix (j := 0) (Ex.refl _) rfl) ev_c (rv_eq rfl))) (decide_eq_true rfl)) (fun _ H1 e1 => s_ret (ix (j := 1) e1 rfl) fun H2 e2 => q H2 (e1.trans e2)) (fun z => nomatch z)
  | @try_ m x hx =>
    refine q_when (b := false) (et_is (et_test (ev_op (ix (j := 0) (Ex.refl _) rfl) ev_c (rv_eq rfl))) (by decide +kernel)) (fun z => nomatch z) (fun _ H1 e1 => ?_)
    refine s_ret (ev_if (b := true) (et_is (et_test (ev_op (ix (j := 0) e1 rfl) ev_c (rv_eq rfl))) (decide_eq_true rfl)) (fun _ => ix (j := 2) e1 rfl) fun z => nomatch z) fun H2 e2 => ?_
    have g2 := q H2 (e1.trans e2)
    rw [given_try] at g2
    exact g2
theorem ok_pass {f C CW CN : Addr} {fd : FuncData} {k : Nat} (F : Fun K "pass_step" "Frame.pass_step" sFPass f fd) (B : Blt mg) (T : FrC K mg C) (W : MkNum P w K mg base CW "WrongStep" "position" "position") (Nc : NumC K mg CN) (hk2 : 2 ≤ k)
    (h1 : HasM P w K mg base CX0 k C "next_step" ["self"] (spNext C)) (h2 : HasO P w K mg base k "is_plain" ["step"] (spD isPlain)) (h3 : HasM P w K mg base CX0 k C "move" ["self", "length"] (spMove C)) (h4 : HasO P w K mg base k "given_variable" ["step"] spGiven) (h5 : HasO P w K mg base k "is_integer" ["value"] (spD isInteger)) :
    FnOk P w K mg base (L2.CX P w) (k + 1) f fd ["self", "value"] (spPass C CW CN) := by
  obtain ⟨f1, d1, G1, b1, m1⟩ := h1.ex
  obtain ⟨f2, d2, G2, b2, k2, g2⟩ := h2.ex
  obtain ⟨f3, d3, G3, b3, m3⟩ := h3.ex
  obtain ⟨f4, d4, G4, b4, k4, g4⟩ := h4.ex
  obtain ⟨f5, d5, G5, b5, k5, g5⟩ := h5.ex
  obtain ⟨fI, fdI, bb, Ox, FI, bI, iI, tI, gC⟩ := W.ex
  refine F.okX scFPass (fun vs H Q E h => by obtain ⟨_, _, _, _, _, _, _, _, rfl, _⟩ := h; rfl) (fun cdv A outer s H vs Q E hr h => ?_)
  obtain ⟨p, v, dv, A', vss, pos, m, n, rfl, hdv, hsm, fr, few, hpos, hV, q, qw, qn⟩ := h
  have hu := hu_of hr
  refine ⟨_, pss_cons (ps_set (i := 2) scFPass.nd rfl (.inl rfl) (pe_meth0 (E := E0) (pv 0) T.cl m1 G1 hr b1 .nil pass0))
    (pss_cons (ps_if (PW.pt (pw_or (pt_cmpR op_isN (pv 2) pe_non (nomark _)) (pw_or1 (pt_val (pe_call (E := E0) G2 hr (by rfl) g2 k2 b2 .nil pass0 (pa_cons (pv 2) pa_nil))))))
      (pss_one (ps_raise rfl (takes_of rfl rfl rfl rfl) (pmkG Ox iI tI FI (hr.mono hk2) bI .nil pass0 (by rfl) gC (pa_cons (pe_fld (pv 0) rfl) pa_nil)))) pss_nil)
    (pss_cons (ps_set (i := 3) scFPass.nd rfl (.inl rfl) (pe_call (E := E0) G4 hr (by rfl) g4 k4 b4 .nil pass0 (pa_cons (pv 2) pa_nil)))
    (pss_cons (ps_if (PW.pt (pw_and (pt_cmpR op_isN (pv 3) pe_non (nomark _)) (pw_and1 (pt_cmpR op_notN (pv 1) pe_non (nomark _))))) (pss_one (ps_raise rfl (takes_of rfl rfl rfl rfl) (pmk_own PySem.F.excBase_ValueError Nc.exc Nc.at_ Nc.kp (raises_own Nc.sub Nc.ty) rfl))) pss_nil)
    (pss_cons (ps_if (PW.pt (pw_and (pt_cmpR op_notN (pv 3) pe_non (nomark _)) (pw_and1 (pt_not (pt_val (pe_call (E := E0) G5 hr (by rfl) g5 k5 b5 .nil pass0 (pa_cons (pv 1) pa_nil))))))) (pss_one (ps_raise rfl (takes_of rfl rfl rfl rfl) (pmk_own PySem.F.excBase_ValueError Nc.exc Nc.at_ Nc.kp (raises_own Nc.sub Nc.ty) rfl))) pss_nil)
    (pss_cut (ps_if (pt_cmpR op_notN (pv 3) pe_non (nomark _)) (pss_one (ps_dput hu (pe_fld (pv 0) rfl) (pv 3) (pe_callTy call_int1 (by rfl) B.int bInt (pa_cons (pv 1) pa_nil)) rfl)) pss_nil)
    (pss_one (ps_expr (pe_meth (E := E0) (pv 0) T.cl m3 G3 hr b3 .nil pass0 (pa_cons pe_int pa_nil))))))))), ?_⟩
  refine q_asgAny ⟨.ref p, rfl, p, A'.dx, _, rfl, fr.ob, by rfl, p, A', vss, pos, m, n, rfl, fr, ⟨by omega, by omega⟩, hpos, fun v2 H1 e1 hv => ?_⟩
  have fr1 := fr.ex e1
  have dt : Dt H1 v2 (nextD vss pos) ∧ sm (nextD vss pos) = true := by
    unfold nextD
    rcases hv with ⟨rfl, e⟩ | ⟨t, us, rfl, hus, hT⟩
    · rw [List.getElem?_eq_none (by omega)]
      exact ⟨.non, rfl⟩
    · rw [hus]
      have sv := hV us (List.mem_of_getElem? hus)
      exact ⟨.tup hT (dtAll_flat (stepV_flat sv)), stepV_sm sv⟩
  refine q_when (b := decide (v2 = .non) || isPlain (nextD vss pos)) (et_or (et_test (ev_op (ev_var rfl) ev_c (rv_val fun H2 _ Q q => ⟨rfl, q⟩))) fun _ => et_B (ev_call (ea_cons (ev_var rfl) ea_nil) (spv_D dt.1 dt.2))) (fun hb H2 e2 => ?_) (fun hb H2 e2 => ?_)
  · have fr2 := fr1.ex e2
    have cond : vss[pos]? = none ∨ isPlain (nextD vss pos) = true := by
      rcases Bool.or_eq_true_iff.mp hb with z | z
      · rcases hv with ⟨rfl, e⟩ | ⟨t, us, rfl, hus, hT⟩
        · exact .inl (List.getElem?_eq_none (by omega))
        · exact absurd (of_decide_eq_true z) (fun y => nomatch y)
      · exact .inr z
    exact mk_num ⟨.ref p, rfl, p, C, A'.dx, _, _, rfl, fr2.ob, T.cl, T.nP, fl_pos _ _, (pos : Int), rfl, log_small (by omega), fun dx hz => qw cond dx _ (fresh_back (e1.trans e2) hz) ((e1.trans e2).trans (Ex.new hz)) upd_same⟩
      (fun k ⟨x, hx, a, C, dx, fs, v, h1, h2, h3, h4, h5, r⟩ => ⟨x, hx, a, C, dx, fs, v, h1, h2, h3, h4, h5, k _ _ r⟩)
  · rw [Bool.or_eq_false_iff] at hb
    rcases hv with ⟨rfl, e⟩ | ⟨t, us, rfl, hus, hT⟩
    · exact absurd hb.1 (by decide)
    have sv := hV us (List.mem_of_getElem? hus)
    have ov : OtherV us := other_of sv (by have z := hb.2; unfold nextD at z; rw [hus] at z; exact z)
    have e12 := e1.trans e2
    refine q_asg (v := varV (givenX us)) (ev_call (ea_cons (ev_var rfl) ea_nil) fun H3 e3 Q q E => ⟨t, us, rfl, e3 _ _ (e2 _ _ hT), ov, q⟩) fun H3 e3 => ?_
    have e13 := e12.trans e3
    have dv3 := Dt.ex e13 hdv
    -- the value
    have vn : decide (v = .non) = isNoneD dv := by cases hdv <;> rfl
    refine q_when (b := decide (varV (givenX us) = .non) && !decide (v = .non)) (et_and (et_test (ev_op (ev_var rfl) ev_c (rv_val fun H2 _ Q q => ⟨rfl, q⟩))) fun _ => et_test (ev_op (ev_var rfl) ev_c (rv_val fun H2 _ Q q => ⟨rfl, q⟩))) (fun hb1 H4 e4 => ?_) (fun hb1 H4 e4 => ?_)
    · refine qn us H4 hus ov ?_ (e13.trans e4)
      obtain ⟨c1, c2⟩ := Bool.and_eq_true_iff.mp hb1
      have gn : givenX us = none := by
        cases hg : givenX us with
        | none => rfl
        | some x => rw [hg] at c1; exact absurd (of_decide_eq_true c1) (fun y => nomatch y)
      unfold rightV
      rw [gn]
      rw [vn, Bool.not_eq_true'] at c2
      exact c2
    have e14 := e13.trans e4
    refine q_when (b := !decide (varV (givenX us) = .non) && !isInteger dv) (et_and (et_test (ev_op (ev_var rfl) ev_c (rv_val fun H2 _ Q q => ⟨rfl, q⟩))) fun _ => et_not (et_B (ev_call (ea_cons (ev_var rfl) ea_nil) (spv_D (Dt.ex e14 hdv) hsm)))) (fun hb2 H5 e5 => ?_) (fun hb2 H5 e5 => ?_)
    · refine qn us H5 hus ov ?_ (e14.trans e5)
      obtain ⟨c1, c2⟩ := Bool.and_eq_true_iff.mp hb2
      unfold rightV
      cases hg : givenX us with
      | none => rw [hg] at c1; exact absurd c1 (by decide)
      | some x => rw [Bool.not_eq_true'] at c2; exact c2
    have e15 := e14.trans e5
    have fr5 := fr.ex e15
    have bt : But (own p A') H H5 := But.of e15
    have right : rightV us dv = true := by
      unfold rightV
      cases hg : givenX us with
      | none =>
        rw [hg] at hb1
        have c : (decide (varV none = V.non) && !decide (v = .non)) = false := hb1
        rw [show decide (varV none = V.non) = true from rfl, Bool.true_and, vn, Bool.not_eq_false'] at c
        exact c
      | some x =>
        rw [hg] at hb2
        have c : (!decide (varV (some x) = V.non) && !isInteger dv) = false := hb2
        rw [show decide (varV (some x) = V.non) = false from decide_eq_false (fun z => nomatch z), Bool.not_false, Bool.true_and, Bool.not_eq_false'] at c
        exact c
    refine q_cut (M := fun σ H6 => σ[0]? = some (some (.ref p)) ∧ FrameAt C H6 p A' vss pos (memoO us (intOf dv) m) n ∧ But (own p A') H H6) ?_ (fun σ H6 ⟨s0, f6, b6⟩ => ?_)
    · cases hg : givenX us with
      | none =>
        refine s_when (b := false) (et_is (et_test (ev_op (ev_var (v := .non) rfl) ev_c (rv_val fun H2 _ Q q => ⟨rfl, q⟩))) rfl) (fun z => nomatch z) (fun _ H6 e6 => ⟨rfl, ?_, bt.trans (But.of e6)⟩)
        unfold memoO
        rw [hg]
        exact fr5.ex e6
      | some x =>
        have hx := given_var ov hg
        have hi : ∃ i, v = .int i ∧ dv = .int i := by
          unfold rightV at right
          rw [hg] at right
          cases hdv with
          | int i => exact ⟨i, rfl, rfl⟩
          | _ => exact nomatch right
        obtain ⟨i, rfl, rfl⟩ := hi
        refine s_when (b := true) (et_is (et_test (ev_op (ev_var (v := .str x) rfl) ev_c (rv_val fun H2 _ Q q => ⟨rfl, q⟩))) (by rw [decide_eq_false (fun z => nomatch z)]; rfl)) (fun _ H6 e6 => ?_) (fun z => nomatch z)
        have f6 := fr5.ex e6
        refine ⟨.int i, rfl, .inl ⟨i, rfl, .ref p, rfl, p, C, A'.dx, _, _, rfl, f6.ob, T.cl, T.nM, fl_mem _ _, .str x, rfl, A'.aM, _, rfl, DPut.k (k := .inr x) f6.me (by show 4 < sizeLine; decide), rfl, ?_, (bt.trans (But.of e6)).upd (by simp [own])⟩⟩
        unfold memoO
        rw [hg, m4_put _ hx]
        exact f6.setM _
    · refine ⟨.ref p, s0, p, A'.dx, _, rfl, f6.ob, by rfl, p, A', vss, pos, memoO us (intOf dv) m, n, 1, rfl, f6, by omega, fun H7 f7 b7 => q us H7 hus ov right f7 (b6.trans b7)⟩
end
end Cr
/-! steps: their words and sizes (pure) -/
namespace Cr
open PySem PySem.Spec PyProof.Rows L2 Evl
def wordy : PyData → Bool
  | .str x => decide (x.length ≤ 8) && !decide (32 ∈ x.cps.toList)
  | .int _ => true
  | _ => false
theorem low_free {x : Str} (h : isNameS x = true) : x.length ≤ 8 ∧ 32 ∉ x.cps.toList := by
  unfold isNameS at h
  simp only [Bool.and_eq_true, decide_eq_true_eq] at h
  refine ⟨by omega, fun m => ?_⟩
  have z := List.all_eq_true.mp h.2 32 m
  exact absurd z (by decide)
theorem wordy_name {x : Str} (h : isNameS x = true) : wordy (.str x) = true := by
  obtain ⟨a, b⟩ := low_free h
  show (decide (x.length ≤ 8) && !decide (32 ∈ x.cps.toList)) = true
  rw [decide_eq_true a, decide_eq_false b]
  rfl
theorem wordy_item {d : PyData} {k : Str} (h : isItem d k = true) : wordy d = true := by
  unfold isItem at h
  split at h
  · cases d with
    | str x =>
      rcases var_cases h with e | e | e | e
      all_goals
        subst e
        decide +kernel
    | _ => exact nomatch h
  · split at h
    · cases d with
      | int i => rfl
      | _ => exact nomatch h
    · split at h
      · cases d with
        | int i => rfl
        | _ =>
        rw [Bool.and_eq_true] at h
        exact nomatch h.2
      · cases d with
        | str x => exact wordy_name h
        | _ => exact nomatch h
theorem shape_words : ∀ z ks, shapeOf z = some ks → wordy (.str z) = true ∧ ks.length ≤ 3 := by
  intro z ks h
  unfold shapeOf at h
  split at h
  · rename_i e; subst e; cases h; decide +kernel
  split at h
  · rename_i e; subst e; cases h; decide +kernel
  split at h
  · rename_i e; subst e; cases h; decide +kernel
  split at h
  · rename_i e; subst e; cases h; decide +kernel
  split at h
  · rename_i e; subst e; cases h; decide +kernel
  split at h
  · rename_i e; subst e; cases h; decide +kernel
  split at h
  · rename_i e; subst e; cases h; decide +kernel
  split at h
  · rename_i e; subst e; cases h; decide +kernel
  · cases h
theorem items_all {ds : List PyData} {ks : List Str} (l : ds.length = ks.length) (h : stepItems ds ks = true) : ∀ i, i < ks.length → isItem (ds.getD i .none) (ks.getD i "") = true := by
  intro i hi
  unfold stepItems at h
  rw [List.all_map, List.all_eq_true] at h
  exact h i (List.mem_range.mpr hi)
/-- the items of a step -/
theorem step_wordy {ds : List PyData} (h : isStep (.tuple ds) = true) : ds.length ≤ 4 ∧ ∀ d ∈ ds, wordy d = true := by
  obtain ⟨z, r, e⟩ := step_form h
  cases e
  cases hs : shapeOf z with
  | none =>
    have z' : isStep (.tuple (.str z :: r)) = false := by
      show (match shapeOf z with | some ks => _ | none => false) = false
      rw [hs]
    rw [z'] at h
    cases h
  | some ks =>
    rw [isStep_eq hs, Bool.and_eq_true, decide_eq_true_eq] at h
    obtain ⟨hl, hi⟩ := h
    obtain ⟨w1, w2⟩ := shape_words z ks hs
    refine ⟨by rw [List.length_cons]; omega, fun d hd => ?_⟩
    rcases List.mem_cons.mp hd with rfl | hd
    · exact w1
    · obtain ⟨i, hi2, rfl⟩ := List.getElem_of_mem hd
      have z2 := items_all hl hi i (by omega)
      rw [List.getD_eq_getElem?_getD, List.getElem?_eq_getElem hi2] at z2
      exact wordy_item z2
theorem smAll_of : ∀ {l : List PyData}, (∀ d ∈ l, sm d = true) → smAll l = true
  | [], _ => rfl
  | d :: l, h => by rw [smAll, h d List.mem_cons_self, smAll_of fun e he => h e (List.mem_cons_of_mem _ he)]; rfl
theorem step_sm {ds : List PyData} (h : isStep (.tuple ds) = true) : sm (.tuple ds) = true := by
  obtain ⟨l4, w⟩ := step_wordy h
  rw [sm, Bool.and_eq_true]
  refine ⟨decide_eq_true (by omega), smAll_of fun d hd => ?_⟩
  have y := w d hd
  cases d with
  | int i => rfl
  | str x =>
    have z : (decide (x.length ≤ 8) && !decide (32 ∈ x.cps.toList)) = true := y
    rw [Bool.and_eq_true, decide_eq_true_eq] at z
    exact decide_eq_true (by omega)
  | _ => exact nomatch y
theorem item_nm {x : Str} {k : Str} (h : isItem (.str x) k = true) : isNameS x = true := by
  unfold isItem at h
  split at h
  · rcases var_cases h with e | e | e | e
    all_goals
      subst e
      decide +kernel
  · split at h
    · exact nomatch h
    · split at h
      · rw [Bool.and_eq_true] at h
        exact nomatch h.2
      · exact h
theorem shape_nm : ∀ z ks, shapeOf z = some ks → isNameS z = true := by
  intro z ks h
  unfold shapeOf at h
  split at h
  · rename_i e; subst e; decide +kernel
  split at h
  · rename_i e; subst e; decide +kernel
  split at h
  · rename_i e; subst e; decide +kernel
  split at h
  · rename_i e; subst e; decide +kernel
  split at h
  · rename_i e; subst e; decide +kernel
  split at h
  · rename_i e; subst e; decide +kernel
  split at h
  · rename_i e; subst e; decide +kernel
  split at h
  · rename_i e; subst e; decide +kernel
  · cases h
theorem step_parts {ds : List PyData} (h : isStep (.tuple ds) = true) : ∃ z r ks, ds = .str z :: r ∧ shapeOf z = some ks ∧ r.length = ks.length ∧ stepItems r ks = true := by
  obtain ⟨z, r, e⟩ := step_form h
  cases e
  cases hs : shapeOf z with
  | none =>
    have z' : isStep (.tuple (.str z :: r)) = false := by
      show (match shapeOf z with | some ks => _ | none => false) = false
      rw [hs]
    rw [z'] at h
    cases h
  | some ks =>
    rw [isStep_eq hs, Bool.and_eq_true, decide_eq_true_eq] at h
    exact ⟨z, r, ks, rfl, hs, h.1, h.2⟩
theorem step_str {ds : List PyData} (h : isStep (.tuple ds) = true) {x : Str} (hd : PyData.str x ∈ ds) : isNameS x = true := by
  obtain ⟨z, r, ks, rfl, hs, hl, hit⟩ := step_parts h
  rcases List.mem_cons.mp hd with e | hd
  · cases e
    exact shape_nm _ ks hs
  · obtain ⟨i, hi2, ex⟩ := List.getElem_of_mem hd
    have z2 := items_all hl hit i (by omega)
    rw [List.getD_eq_getElem?_getD, List.getElem?_eq_getElem hi2] at z2
    have z3 : isItem (r[i]) (ks.getD i "") = true := z2
    rw [ex] at z3
    exact item_nm z3
theorem pss_dead' {X : Cx} {ss : List Stmt} : PSs X ss (fun _ _ _ => False) := ⟨fun _ _ _ _ _ _ h => h.elim⟩
end Cr
/-! the order of texts and of pairs of texts; sorted of data -/
namespace Cr
open PySem PySem.Spec PyProof.Rows L2 Evl
/-! ### texts -/
def leS (x y : Str) : Bool := decide (x.cps.toList ≤ y.cps.toList)
def ltS (x y : Str) : Prop := x.cps.toList < y.cps.toList
theorem leS_trans (x y z : Str) (h1 : leS x y = true) (h2 : leS y z = true) : leS x z = true := decide_eq_true (List.le_trans (of_decide_eq_true h1) (of_decide_eq_true h2))
theorem leS_total (x y : Str) : (leS x y || leS y x) = true := by
  rcases List.le_total (x.cps.toList) (y.cps.toList) with h | h
  · rw [show leS x y = true from decide_eq_true h, Bool.true_or]
  · rw [show leS y x = true from decide_eq_true h, Bool.or_true]
theorem leS_anti {x y : Str} (h1 : leS x y = true) (h2 : leS y x = true) : x = y := PySem.W.str_of_cps (List.le_antisymm (of_decide_eq_true h1) (of_decide_eq_true h2))
theorem ltS_irrefl (x : Str) : ¬ ltS x x := List.lt_irrefl _
theorem ltS_trans {x y z : Str} (h1 : ltS x y) (h2 : ltS y z) : ltS x z := List.lt_trans h1 h2
theorem ltS_leS {x y : Str} (h : ltS x y) : leS x y = true := decide_eq_true (List.le_of_lt h)
theorem leS_ltS {x y : Str} (h : leS x y = true) (n : x ≠ y) : ltS x y := by
  rcases List.le_iff_lt_or_eq.mp (of_decide_eq_true h) with z | z
  · exact z
  · exact absurd (PySem.W.str_of_cps z) n
/-- a list of texts, sorted -/
def srtS (xs : List Str) : List Str := xs.mergeSort leS
theorem srtS_perm (xs : List Str) : (srtS xs).Perm xs := List.mergeSort_perm _ _
theorem srtS_le (xs : List Str) : (srtS xs).Pairwise (fun x y => leS x y = true) := List.pairwise_mergeSort leS_trans leS_total xs
theorem srtS_lt {xs : List Str} (h : xs.Nodup) : (srtS xs).Pairwise ltS := by
  have nd : (srtS xs).Nodup := (srtS_perm xs).nodup_iff.mpr h
  have a := srtS_le xs
  rw [List.Nodup] at nd
  exact (a.and nd).imp fun ⟨h1, h2⟩ => leS_ltS h1 h2
/-- two lists that rise strictly and have the same items are the same -/
theorem rise_eq {α : Type} {lt : α → α → Prop} (ir : ∀ x, ¬ lt x x) (tr : ∀ {x y z}, lt x y → lt y z → lt x z) : ∀ {xs ys : List α}, xs.Pairwise lt → ys.Pairwise lt → (∀ a, a ∈ xs ↔ a ∈ ys) → xs = ys
  | [], [], _, _, _ => rfl
  | [], y :: ys, _, _, h => absurd ((h y).mpr List.mem_cons_self) (by simp)
  | x :: xs, [], _, _, h => absurd ((h x).mp List.mem_cons_self) (by simp)
  | x :: xs, y :: ys, h1, h2, h => by
    rw [List.pairwise_cons] at h1 h2
    have e : x = y := by
      rcases List.mem_cons.mp ((h x).mp List.mem_cons_self) with e | m
      · exact e
      · rcases List.mem_cons.mp ((h y).mpr List.mem_cons_self) with e | m2
        · exact e.symm
        · exact absurd (tr (h1.1 y m2) (h2.1 x m)) (ir x)
    subst e
    rw [rise_eq ir tr h1.2 h2.2 fun a => ?_]
    constructor
    · intro m
      rcases List.mem_cons.mp ((h a).mp (List.mem_cons_of_mem _ m)) with e | m2
      · subst e; exact absurd (h1.1 a m) (ir a)
      · exact m2
    · intro m
      rcases List.mem_cons.mp ((h a).mpr (List.mem_cons_of_mem _ m)) with e | m2
      · subst e; exact absurd (h2.1 a m) (ir a)
      · exact m2
theorem srt_uniq {xs ys : List Str} (p : ys.Perm xs) (s : ys.Pairwise (fun x y => leS x y = true)) : ys = srtS xs :=
  (p.trans (srtS_perm xs).symm).eq_of_pairwise (fun _ _ _ _ => leS_anti) s (srtS_le xs)
theorem sorted_le : ∀ {xs : List Str}, sortedS xs = true → xs.Pairwise (fun x y => leS x y = true) := by
  have lt_le : ∀ {x y : Str}, (!ltCps y.cps.toList x.cps.toList) = true → leS x y = true := fun {x y} h => by
    rw [Bool.not_eq_true'] at h
    refine decide_eq_true (List.not_lt.mp fun z => ?_)
    have : ltCps y.cps.toList x.cps.toList = true := by rw [ltCps_eq]; exact decide_eq_true z
    rw [h] at this
    cases this
  have go : ∀ (xs : List Str) (p : Str), risingS p xs = true → (∀ x ∈ xs, leS p x = true) ∧ xs.Pairwise (fun x y => leS x y = true) := by
    intro xs
    induction xs with
    | nil => intro p _; exact ⟨by simp, .nil⟩
    | cons x r ih =>
      intro p h
      rw [risingS, Bool.and_eq_true] at h
      obtain ⟨a, b⟩ := ih x h.2
      have px := lt_le h.1
      refine ⟨fun y hy => ?_, List.pairwise_cons.mpr ⟨a, b⟩⟩
      rcases List.mem_cons.mp hy with rfl | hy
      · exact px
      · exact leS_trans _ _ _ px (a y hy)
  intro xs h
  cases xs with
  | nil => exact .nil
  | cons x r => exact List.pairwise_cons.mpr (go r x h)
theorem sorted_is {xs ys : List Str} (p : ys.Perm xs) (s : sortedS ys = true) : ys = srtS xs := srt_uniq p (sorted_le s)
/-! ### pairs of texts -/
abbrev Pr := Str × Str
def pD (p : Pr) : PyData := .tuple [.str p.1, .str p.2]
/-! ### sorted of data -/
def rSortDt : List V → Hp → VK → Prop := fun vs H Q => ∃ (a : Addr) (xs : List V) (ds : List PyData), vs = [.ref a] ∧ H a = some (.lst xs) ∧ DtAll H xs ds ∧ PySem.W.AllAlike ds ∧ PySem.W.Sortable ds ∧ (∀ d ∈ ds, d.depth ≤ 5) ∧
  ∀ ys p, H p = none → DtAll H ys (ds.mergeSort (PySem.W.dataLe false id)) → Q (.ref p) (upd H p (.lst ys))
theorem dtAll_zip {H : Hp} : ∀ {xs : List V} {ds : List PyData}, DtAll H xs ds → (∀ b ∈ xs.zip ds, Dt H b.1 b.2) ∧ (xs.zip ds).map (·.2) = ds ∧ (xs.zip ds).map (·.1) = xs
  | _, _, .nil => ⟨by simp, rfl, rfl⟩
  | _, _, .cons a b => by
    obtain ⟨h1, h2, h3⟩ := dtAll_zip b
    refine ⟨fun x hx => ?_, by rw [List.zip_cons_cons, List.map_cons, h2], by rw [List.zip_cons_cons, List.map_cons, h3]⟩
    rw [List.zip_cons_cons] at hx
    rcases List.mem_cons.mp hx with rfl | hx
    · exact a
    · exact h1 x hx
theorem dtAll_of {H : Hp} : ∀ {bs : List (V × PyData)}, (∀ b ∈ bs, Dt H b.1 b.2) → DtAll H (bs.map (·.1)) (bs.map (·.2))
  | [], _ => .nil
  | b :: r, h => .cons (h b List.mem_cons_self) (dtAll_of fun x hx => h x (List.mem_cons_of_mem _ hx))
theorem each_vals {bs : List (V × PyData)} : ∀ {out : List Value}, PySem.W.EachIs (fun v (b : V × PyData) => RelV b.1 v) out bs → Vals (bs.map (·.1)) out
  | _, .nil => .nil
  | _, .cons h t => .cons h (each_vals t)
section
variable {X : Cx}
theorem call_sortDt (hu : X.A.units + 64 < cLine) : CallR X (.builtin "sorted") rSortDt := by
  intro pins s σ H vs us Q I r h
  obtain ⟨a, xs, ds, rfl, ha, hx, al, so, dp, q⟩ := h
  obtain ⟨its, rv, hl, hz⟩ := I.list (.inl (.inl ha))
  obtain ⟨u, rfl, ru⟩ := vals1 r
  obtain rfl : u = Value.ref a := ru
  obtain ⟨z1, z2, z3⟩ := dtAll_zip hx
  have each : ∀ {xs : List V} {ds : List PyData} {us : List Value}, DtAll H xs ds → Vals xs us → PySem.W.EachIs (fun v (b : V × PyData) => RelV b.1 v) us (xs.zip ds) ∧ PySem.W.EachIs (fun v (b : V × PyData) => ∃ as, Reads s.heap v b.2 as) us (xs.zip ds) := by
    intro xs ds us h
    induction xs generalizing ds us with
    | nil => intro r; cases h; cases r; exact ⟨.nil, .nil⟩
    | cons x xs ih =>
      intro r
      cases h with
      | cons h1 h2 =>
        cases r with
        | cons r1 r2 =>
          obtain ⟨e1, e2⟩ := ih h2 r2
          exact ⟨.cons r1 e1, .cons (Dt.shown I h1 r1).1 e2⟩
  obtain ⟨e1, e2⟩ := each hx rv
  refine PySem.W.sorted_data (R := fun v (b : V × PyData) => RelV b.1 v) (enc := fun b => b.2) hl.isList e1 e2 (by rw [z2]; exact al) (by rw [z2]; exact so) ?_ (fun b hb => ?_) fun out lo eo => ?_
  · have l1 := congrArg List.length z3
    rw [List.length_map] at l1
    rw [l1]
    exact hz
  · have m : b.2 ∈ ds := by rw [← z2]; exact List.mem_map_of_mem hb
    have := dp _ m
    omega
  · have perm := List.mergeSort_perm (xs.zip ds) (PySem.W.dataLe false fun b => b.2)
    have dt : DtAll H (((xs.zip ds).mergeSort (PySem.W.dataLe false fun b => b.2)).map (·.1)) (((xs.zip ds).mergeSort (PySem.W.dataLe false fun b => b.2)).map (·.2)) := dtAll_of fun b hb => z1 b (perm.mem_iff.mp hb)
    have em : ((xs.zip ds).mergeSort (PySem.W.dataLe false fun b => b.2)).map (·.2) = ds.mergeSort (PySem.W.dataLe false id) := by
      have := List.map_mergeSort (l := xs.zip ds) (f := fun b : V × PyData => b.2) (r := PySem.W.dataLe false fun b => b.2) (s := PySem.W.dataLe false id) fun _ _ _ _ => rfl
      rw [this, z2]
    rw [em] at dt
    obtain ⟨ep, he'⟩ := PyProof.Rows.sortedAll_at s.heap its out.toArray
    have vo := each_vals eo
    have lz : (((xs.zip ds).mergeSort (PySem.W.dataLe false fun b => b.2)).map (·.1)).length ≤ sizeLine := by
      have l1 := congrArg List.length z3
      rw [List.length_map] at l1
      rw [List.length_map, List.length_mergeSort, l1]
      exact hz
    exact ⟨.ref _, upd H (s.heap.objs.size + 1) (.lst _), I.laid (t' := s.toks) (fun _ _ => PyProof.Rows.sortedAll_old) (Nat.le_succ _) ⟨lz, out, ep, vo, he'⟩, rfl, q _ _ (I.hok.fresh (Nat.le_succ _)) dt⟩
end
end Cr
/-! libraries: what they are (pure) -/
namespace Cr
open PySem PySem.Spec PyProof.Rows L2 Evl
abbrev Prog := List (List PyData)
abbrev Lib := List (Str × Prog)
def progD (p : Prog) : PyData := .list (p.map PyData.tuple)
def libD (L : Lib) : PyData := .dict (L.map fun r => (.str r.1, progD r.2))
def okMod (ns : List Str) (ds : List PyData) : Bool :=
  match modO (.tuple ds) with
  | some x => decide (x ∈ ns)
  | none => true
/-- a program of valid steps -/
structure ProgV (p : Prog) : Prop where
  len : p.length ≤ 30
  st : ∀ ds ∈ p, isStep (.tuple ds) = true
  bf : ∀ (j : Nat) ds, p[j]? = some ds → isBefore (.tuple ds) ((p.length : Int) - j - 1) = true
  it : ∀ ds ∈ p, ∀ i, PyData.int i ∈ ds → i.natAbs ≤ 10 ^ 30
/-- a library but for its modules' being known -/
structure LibV (L : Lib) : Prop where
  nm : ∀ r ∈ L, isNameS r.1 = true
  nd : (L.map (·.1)).Nodup
  l1 : 1 ≤ L.length
  l40 : L.length ≤ 40
  ok : ∀ r ∈ L, ProgV r.2
structure LibOk (L : Lib) : Prop where
  v : LibV L
  mi : ∀ r ∈ L, ∀ ds ∈ r.2, okMod (L.map (·.1)) ds = true
def rowL (L : Lib) (n : Str) : Option (Str × Prog) := L.find? fun r => decide (r.1 = n)
def progL (L : Lib) (n : Str) : Prog := match rowL L n with | some r => r.2 | none => []
def srtL (L : Lib) : Lib := (srtS (L.map (·.1))).map fun n => (n, progL L n)
theorem rowL_mem {L : Lib} {n : Str} {r : Str × Prog} (h : rowL L n = some r) : r ∈ L ∧ r.1 = n := by
  unfold rowL at h
  have z := List.find?_some h
  exact ⟨List.mem_of_find?_eq_some h, of_decide_eq_true z⟩
theorem rowL_in {L : Lib} {r : Str × Prog} (hk : (L.map (·.1)).Nodup) (h : r ∈ L) : rowL L r.1 = some r := by
  induction L with
  | nil => exact nomatch h
  | cons y g ih =>
    rw [List.map_cons, List.nodup_cons] at hk
    unfold rowL
    rw [List.find?_cons]
    rcases List.mem_cons.mp h with rfl | h
    · rw [decide_eq_true rfl]
    · have n : ¬ y.1 = r.1 := fun e => hk.1 (by rw [e]; exact List.mem_map_of_mem h)
      rw [decide_eq_false n]
      exact ih hk.2 h
theorem progL_in {L : Lib} {r : Str × Prog} (hk : (L.map (·.1)).Nodup) (h : r ∈ L) : progL L r.1 = r.2 := by
  unfold progL
  rw [rowL_in hk h]
theorem srt_names (L : Lib) : (srtL L).map (·.1) = srtS (L.map (·.1)) := by
  unfold srtL
  rw [List.map_map]
  exact (List.map_congr_left (g := id) fun n _ => rfl).trans (List.map_id _)
theorem mem_srt {L : Lib} (hk : (L.map (·.1)).Nodup) (r : Str × Prog) : r ∈ srtL L ↔ r ∈ L := by
  unfold srtL
  rw [List.mem_map]
  constructor
  · rintro ⟨n, hn, rfl⟩
    have hn := (srtS_perm _).mem_iff.mp hn
    obtain ⟨y, hy, rfl⟩ := List.mem_map.mp hn
    rw [progL_in hk hy]
    exact hy
  · intro h
    exact ⟨r.1, (srtS_perm _).mem_iff.mpr (List.mem_map_of_mem h), by rw [progL_in hk h]⟩
theorem srt_up {L : Lib} (hk : (L.map (·.1)).Nodup) : ((srtL L).map (·.1)).Pairwise ltS := by
  rw [srt_names]
  exact srtS_lt hk
theorem up_nodup {xs : List Str} (h : xs.Pairwise ltS) : xs.Nodup := by
  rw [List.Nodup]
  exact h.imp fun {a b} z (e : a = b) => ltS_irrefl a (by rw [← e] at z; exact z)
theorem up_same {xs ys : List Str} (h1 : xs.Pairwise ltS) (h2 : ys.Pairwise ltS) (h : ∀ a, a ∈ xs ↔ a ∈ ys) : xs = ys := rise_eq (lt := ltS) ltS_irrefl ltS_trans h1 h2 h
theorem srt_len (L : Lib) : (srtL L).length = L.length := by
  unfold srtL
  rw [List.length_map, (srtS_perm _).length_eq, List.length_map]
theorem srt_v {L : Lib} (h : LibV L) : LibV (srtL L) :=
  ⟨fun r hr => h.nm r ((mem_srt h.nd r).mp hr), up_nodup (srt_up h.nd), by rw [srt_len]; exact h.l1, by rw [srt_len]; exact h.l40, fun r hr => h.ok r ((mem_srt h.nd r).mp hr)⟩
theorem okMod_same {ns ns' : List Str} (m : ∀ a, a ∈ ns ↔ a ∈ ns') (ds : List PyData) : okMod ns ds = okMod ns' ds := by
  unfold okMod
  cases modO (.tuple ds) with
  | none => rfl
  | some x => exact decide_eq_decide.mpr (m x)
theorem srt_ok {L : Lib} (h : LibOk L) : LibOk (srtL L) := ⟨srt_v h.v, fun r hr ds hd => by
  rw [srt_names, okMod_same (ns' := L.map (·.1)) (fun a => (srtS_perm _).mem_iff)]
  exact h.mi r ((mem_srt h.v.nd r).mp hr) ds hd⟩
def optV : Option Str → V
  | none => .non
  | some x => .str x
theorem inV_opt (x : Str) : ∀ l : List (Option Str), inV (.str x) (l.map optV) = decide (some x ∈ l)
  | [] => rfl
  | a :: l => by
    have ih := inV_opt x l
    have e : inV (.str x) ((a :: l).map optV) = (eqV (optV a) (.str x) || inV (.str x) (l.map optV)) := by
      unfold inV
      rw [List.map_cons, List.any_cons]
    have e2 : eqV (optV a) (.str x) = decide (some x = a) := by
      cases a with
      | none => rfl
      | some y =>
        show (y == x) = decide (some x = some y)
        rw [Bool.eq_iff_iff, beq_iff_eq, decide_eq_true_eq]
        exact ⟨fun h => by rw [h], fun h => (Option.some.inj h).symm⟩
    rw [e, ih, e2, Bool.eq_iff_iff, Bool.or_eq_true, decide_eq_true_eq, decide_eq_true_eq, decide_eq_true_eq, List.mem_cons]
theorem mods_ok {ns : List Str} {known : List (Option Str)} (hk : ∀ x, some x ∈ known ↔ x ∈ ns) (ds : List PyData) : modsOk (some (known.map optV)) (.tuple ds) = okMod ns ds := by
  unfold modsOk okMod
  cases modO (.tuple ds) with
  | none => rfl
  | some x =>
    show ([x].all fun x => inV (.str x) (known.map optV)) = decide (x ∈ ns)
    rw [List.all_cons, List.all_nil, Bool.and_true, inV_opt]
    exact decide_eq_decide.mpr (hk x)
theorem getD_at {α : Type} {l : List α} {i : Nat} (d : α) (h : i < l.length) : l.getD i d = l[i] := by
  rw [List.getD_eq_getElem?_getD, List.getElem?_eq_getElem h]
  rfl
theorem getD_map {α β : Type} (f : α → β) {l : List α} {i : Nat} (d : β) (e : α) (h : i < l.length) : (l.map f).getD i d = f (l.getD i e) := by
  rw [getD_at _ (by rw [List.length_map]; exact h), List.getElem_map, getD_at _ h]
theorem nm_sm {x : Str} (h : isNameS x = true) : sm (.str x) = true := by
  have := (low_free h).1
  exact decide_eq_true (by omega)
theorem prog_sm {p : Prog} (v : ProgV p) : sm (progD p) = true := by
  unfold progD
  rw [sm, Bool.and_eq_true, List.length_map]
  refine ⟨decide_eq_true (by have := v.len; omega), smAll_of fun d hd => ?_⟩
  obtain ⟨ds, hds, rfl⟩ := List.mem_map.mp hd
  exact step_sm (v.st ds hds)
theorem due_prog {p : Prog} {ns : List Str} (v : ProgV p) (hm : ∀ ds ∈ p, okMod ns ds = true) : dueOf (some (ns.map V.str)) false (progD p) = none := by
  have h30 : ¬ (p.map PyData.tuple).length > 30 := by rw [List.length_map]; have := v.len; omega
  have e : dueOf (some (ns.map V.str)) false (progD p) = (firstBad (some (ns.map V.str)) false (p.map PyData.tuple)).map fun i => (i : Int) := if_neg h30
  rw [e, first_none fun j hj => ?_]
  · rfl
  rw [List.length_map] at hj
  unfold wrongAt
  rw [getD_map PyData.tuple .none [] hj, List.length_map, Bool.false_and, Bool.or_false]
  have gj := getD_at ([] : List PyData) hj
  have mem : p.getD j [] ∈ p := by rw [gj]; exact List.getElem_mem hj
  have bf := v.bf j (p.getD j []) (by rw [gj]; exact List.getElem?_eq_getElem hj)
  unfold fitsIn
  rw [bf, Bool.true_and]
  have e2 : modsOk (some (ns.map V.str)) (.tuple (p.getD j [])) = true := by
    have z := mods_ok (known := ns.map some) (ns := ns) (fun x => by rw [List.mem_map]; exact ⟨fun ⟨y, hy, e⟩ => by cases e; exact hy, fun h => ⟨x, h, rfl⟩⟩) (p.getD j [])
    rw [hm _ mem] at z
    rw [List.map_map] at z
    exact z
  rw [e2]
  rfl
theorem cutV_from' {xs : List V} (k : Nat) : cutV xs (some (k : Int)) none = xs.drop k := by
  unfold cutV
  rw [HT.sIx_none, HT.sIx_nat]
  by_cases h : k ≤ xs.length
  · rw [Nat.min_eq_left h, List.take_of_length_le (by rw [List.length_drop]; omega)]
  · rw [Nat.min_eq_right (by omega), List.drop_of_length_le (Nat.le_refl _), List.drop_of_length_le (by omega), List.take_nil]
end Cr
/-! plain runs (pure): modules are initialized at their first need -/
namespace Cr
open PySem PySem.Spec PyProof.Rows L2 Evl
/-! ### lists of named things, as dicts keep them -/
def putA {α : Type} (l : List (Str × α)) (n : Str) (v : α) : List (Str × α) :=
  if (l.any fun r => decide (r.1 = n)) = true then l.map (fun r => if r.1 = n then (r.1, v) else r) else l ++ [(n, v)]
def getA {α : Type} (l : List (Str × α)) (n : Str) : Option α := (l.find? fun r => decide (r.1 = n)).map (·.2)
theorem putK_map {α : Type} (f : α → V) (l : List (Str × α)) (n : Str) (v : α) : putK (l.map fun r => ((.inr r.1 : Key), f r.2)) (.inr n) (f v) = (putA l n v).map fun r => ((.inr r.1 : Key), f r.2) := by
  have e : ((l.map fun r => ((.inr r.1 : Key), f r.2)).any fun kv => decide (kv.1 = (.inr n : Key))) = l.any fun r => decide (r.1 = n) := by
    rw [List.any_map]
    congr 1
    funext r
    exact decide_eq_decide.mpr ⟨fun h => Sum.inr.inj h, fun h => (by show (Sum.inr r.1 : Key) = _; rw [h])⟩
  unfold putK putA
  rw [e]
  split
  · rw [List.map_map, List.map_map]
    refine List.map_congr_left fun r _ => ?_
    show (if (Sum.inr r.1 : Key) = Sum.inr n then _ else _) = _
    by_cases h : r.1 = n
    · rw [if_pos (by show (Sum.inr r.1 : Key) = _; rw [h])]
      show _ = ((.inr (if r.1 = n then (r.1, v) else r).1 : Key), f (if r.1 = n then (r.1, v) else r).2)
      rw [if_pos h]
    · rw [if_neg (fun z => h (Sum.inr.inj z))]
      show _ = ((.inr (if r.1 = n then (r.1, v) else r).1 : Key), f (if r.1 = n then (r.1, v) else r).2)
      rw [if_neg h]
  · rw [List.map_append]
    rfl
theorem valV_mapA {α : Type} (f : α → V) (n : Str) : ∀ l : List (Str × α), valV (l.map fun r => ((.inr r.1 : Key), f r.2)) (.inr n) = (getA l n).map f
  | [] => rfl
  | r :: l => by
    unfold getA
    rw [List.map_cons, List.find?_cons]
    by_cases h : r.1 = n
    · rw [decide_eq_true h, valV_pos (by rw [h])]
      rfl
    · rw [decide_eq_false h, valV_neg (fun z => h (Sum.inr.inj z)), valV_mapA f n l]
      rfl
theorem getA_mem {α : Type} {l : List (Str × α)} {n : Str} {v : α} (h : getA l n = some v) : (n, v) ∈ l := by
  unfold getA at h
  obtain ⟨r, h1, h2⟩ := Option.map_eq_some_iff.mp h
  have z := List.find?_some h1
  have e : r.1 = n := of_decide_eq_true z
  have : r = (n, v) := Prod.ext e h2
  rw [← this]
  exact List.mem_of_find?_eq_some h1
theorem getA_key {α : Type} {l : List (Str × α)} {n : Str} : (getA l n).isSome = true ↔ n ∈ l.map (·.1) := by
  unfold getA
  rw [Option.isSome_map, List.find?_isSome, List.mem_map]
  exact ⟨fun ⟨r, hr, e⟩ => ⟨r, hr, of_decide_eq_true e⟩, fun ⟨r, hr, e⟩ => ⟨r, hr, decide_eq_true e⟩⟩
theorem getA_some {α : Type} {l : List (Str × α)} {n : Str} (h : n ∈ l.map (·.1)) : ∃ v, getA l n = some v := Option.isSome_iff_exists.mp (getA_key.mpr h)
theorem putA_keys {α : Type} (l : List (Str × α)) (n : Str) (v : α) : (putA l n v).map (·.1) = if n ∈ l.map (·.1) then l.map (·.1) else l.map (·.1) ++ [n] := by
  have e : (l.any fun r => decide (r.1 = n)) = decide (n ∈ l.map (·.1)) := by
    rw [Bool.eq_iff_iff, List.any_eq_true, decide_eq_true_eq, List.mem_map]
    exact ⟨fun ⟨r, hr, e⟩ => ⟨r, hr, of_decide_eq_true e⟩, fun ⟨r, hr, e⟩ => ⟨r, hr, decide_eq_true e⟩⟩
  unfold putA
  rw [e]
  by_cases h : n ∈ l.map (·.1)
  · rw [if_pos (decide_eq_true h), if_pos h, List.map_map]
    refine List.map_congr_left fun r _ => ?_
    show (if r.1 = n then (r.1, v) else r).1 = r.1
    split <;> rfl
  · rw [if_neg (by rw [decide_eq_false h]; decide), if_neg h, List.map_append]
    rfl
theorem putA_mem {α : Type} {l : List (Str × α)} {n : Str} {v : α} {k : Str} : k ∈ (putA l n v).map (·.1) ↔ k = n ∨ k ∈ l.map (·.1) := by
  rw [putA_keys]
  split
  · rename_i h
    exact ⟨.inr, fun z => z.elim (fun e => by rw [e]; exact h) id⟩
  · rw [List.mem_append, List.mem_singleton]
    exact ⟨fun z => z.elim .inr .inl, fun z => z.elim .inr .inl⟩
theorem putA_nodup {α : Type} {l : List (Str × α)} {n : Str} {v : α} (h : (l.map (·.1)).Nodup) : ((putA l n v).map (·.1)).Nodup := by
  rw [putA_keys]
  split
  · exact h
  · rename_i hn
    exact List.nodup_append.mpr ⟨h, by simp, fun a ha b hb e => hn (by rw [List.mem_singleton] at hb; rw [← hb, ← e]; exact ha)⟩
theorem putA_new {α : Type} {l : List (Str × α)} {n : Str} {v : α} (h : n ∉ l.map (·.1)) : putA l n v = l ++ [(n, v)] := by
  unfold putA
  rw [if_neg]
  rw [List.any_eq_true]
  rintro ⟨r, hr, e⟩
  exact h (List.mem_map.mpr ⟨r, hr, of_decide_eq_true e⟩)
theorem getA_put {α : Type} (l : List (Str × α)) (n : Str) (v : α) (k : Str) : getA (putA l n v) k = if k = n then some v else getA l k := by
  have gm : ∀ l : List (Str × α), (∃ r ∈ l, r.1 = n) → getA (l.map (fun r => if r.1 = n then (r.1, v) else r)) k = if k = n then some v else getA l k := by
    intro l
    induction l with
    | nil => rintro ⟨r, hr, _⟩; exact nomatch hr
    | cons r l ih =>
      intro hex
      unfold getA at ih ⊢
      rw [List.map_cons, List.find?_cons, List.find?_cons]
      by_cases h : r.1 = n
      · rw [if_pos h]
        by_cases hk : k = n
        · rw [decide_eq_true (by rw [h, hk]), if_pos hk]; rfl
        · rw [decide_eq_false (by rw [h]; exact fun e => hk e.symm), if_neg hk]
          by_cases h2 : ∃ y ∈ l, y.1 = n
          · have z := ih h2
            rw [if_neg hk] at z
            exact z
          · have e : (l.map fun r => if r.1 = n then (r.1, v) else r) = l := by
              refine (List.map_congr_left (g := id) fun y hy => ?_).trans (List.map_id _)
              rw [if_neg fun e => h2 ⟨y, hy, e⟩]
              rfl
            rw [e]
      · rw [if_neg h]
        by_cases hrk : r.1 = k
        · have hk : ¬ k = n := fun e => h (hrk.trans e)
          rw [decide_eq_true hrk, if_neg hk]
        · rw [decide_eq_false hrk]
          obtain ⟨y, hy, e⟩ := hex
          rcases List.mem_cons.mp hy with rfl | hy
          · exact absurd e h
          · exact ih ⟨y, hy, e⟩
  unfold putA
  split
  · rename_i h
    obtain ⟨r, hr, e⟩ := List.any_eq_true.mp h
    exact gm l ⟨r, hr, of_decide_eq_true e⟩
  · rename_i h
    have hn : ∀ r ∈ l, ¬ r.1 = n := fun r hr e => h (List.any_eq_true.mpr ⟨r, hr, decide_eq_true e⟩)
    unfold getA
    rw [List.find?_append]
    by_cases hk : k = n
    · rw [if_pos hk]
      have : l.find? (fun r => decide (r.1 = k)) = none := List.find?_eq_none.mpr fun r hr => by rw [decide_eq_true_eq, hk]; exact hn r hr
      rw [this, Option.none_or, List.find?_cons, decide_eq_true hk.symm]
      rfl
    · rw [if_neg hk, List.find?_cons, decide_eq_false (fun e => hk e.symm)]
      show ((l.find? _).or none).map _ = _
      rw [Option.or_none]
/-! ### the scene -/
abbrev Ints := List (Str × Int)
structure Sc where
  op : List Str
  rs : List (Str × Bool)
  ex : List (Str × Ints)
abbrev ScF := Sc → Str → Except (List Str) (Bool × Sc)
def readV (s : Sc) (seen : List Str) (md l : Str) : Int := if md ∈ seen then ((getA s.ex md).bind fun e => getA e l).getD (-1) else -1
inductive SR where
  | go (d : Nat) (m : M4) (seen : List Str) (s : Sc)
  | halt (m : M4) (s : Sc)
  | cyc (c : List Str)
def expS (s : Sc) (me : Option Str) (l : Str) (i : Int) : Sc := match me with
  | some n => { s with ex := putA s.ex n (putA ((getA s.ex n).getD []) l i) }
  | none => s
def stepX (ini : ScF) (me : Option Str) (us : List V) (m : M4) (seen : List Str) (s : Sc) : SR :=
  match us with
  | [.str _] => .halt m s
  | [.str _, .str md] => match ini s md with
    | .error c => .cyc c
    | .ok (true, s') => .go 1 m (seen ++ [md]) s'
    | .ok (false, s') => .halt m s'
  | [.str z, .str a, .str b] => if z = "export" then .go 1 m seen (expS s me a (m.get b)) else if z = "try" then (match ini s a with
    | .error c => .cyc c
    | .ok (true, s') => .go 1 (m.set b 1) (seen ++ [a]) s'
    | .ok (false, s') => .go 1 (m.set b 0) seen s') else .go (goes us m) (memo us m) seen s
  | [.str _, .str x, .str md, .str l] => .go 1 (m.set x (readV s seen md l)) seen s
  | _ => .go (goes us m) (memo us m) seen s
def execS (ini : ScF) (me : Option Str) (vss : List (List V)) : Nat → Nat → M4 → List Str → Sc → Except (List Str) (Bool × M4 × Sc)
  | 0, _, m, _, s => .ok (true, m, s)
  | f + 1, pos, m, seen, s => match vss[pos]? with
    | none => .ok (true, m, s)
    | some us => match stepX ini me us m seen s with
      | .go d m' seen' s' => execS ini me vss f (pos + d) m' seen' s'
      | .halt m' s' => .ok (false, m', s')
      | .cyc c => .error c
def vsP (p : Prog) : List (List V) := p.map fun ds => ds.map dV
def endI (md : Str) (r : Except (List Str) (Bool × M4 × Sc)) : Except (List Str) (Bool × Sc) := match r with
  | .error c => .error c
  | .ok (e, _, s2) => .ok (e, ⟨s2.op.dropLast, putA s2.rs md e, if e then s2.ex else putA s2.ex md []⟩)
def initS (L : Lib) : Nat → ScF
  | 0 => fun _ _ => .error []
  | n + 1 => fun s md => if md ∈ s.op then .error (s.op.drop (s.op.idxOf md)) else match getA s.rs md with
    | some b => .ok (b, s)
    | none => endI md (execS (initS L n) (some md) (vsP (progL L md)) ((progL L md).length + 1) 0 .zero [md] ⟨s.op ++ [md], s.rs, putA s.ex md []⟩)
theorem exec_succ (ini : ScF) (me : Option Str) (vss : List (List V)) (f pos : Nat) (m : M4) (seen : List Str) (s : Sc) : execS ini me vss (f + 1) pos m seen s = match vss[pos]? with
    | none => .ok (true, m, s)
    | some us => match stepX ini me us m seen s with
      | .go d m' seen' s' => execS ini me vss f (pos + d) m' seen' s'
      | .halt m' s' => .ok (false, m', s')
      | .cyc c => .error c := rfl
theorem exec_at {ini : ScF} {me : Option Str} {vss : List (List V)} {f pos : Nat} {m : M4} {seen : List Str} {s : Sc} {us : List V} (h : vss[pos]? = some us) : execS ini me vss (f + 1) pos m seen s = match stepX ini me us m seen s with
      | .go d m' seen' s' => execS ini me vss f (pos + d) m' seen' s'
      | .halt m' s' => .ok (false, m', s')
      | .cyc c => .error c := by
  rw [exec_succ, h]
theorem exec_end {ini : ScF} {me : Option Str} {vss : List (List V)} {f pos : Nat} {m : M4} {seen : List Str} {s : Sc} (h : vss[pos]? = none) : execS ini me vss f pos m seen s = .ok (true, m, s) := by
  cases f with
  | zero => rfl
  | succ f => rw [exec_succ, h]
theorem init_succ (L : Lib) (n : Nat) (s : Sc) (md : Str) : initS L (n + 1) s md = if md ∈ s.op then .error (s.op.drop (s.op.idxOf md)) else match getA s.rs md with
    | some b => .ok (b, s)
    | none => endI md (execS (initS L n) (some md) (vsP (progL L md)) ((progL L md).length + 1) 0 .zero [md] ⟨s.op ++ [md], s.rs, putA s.ex md []⟩) := rfl
/-! ### what a step does -/
section
variable {ini : ScF} {me : Option Str} {m : M4} {seen : List Str} {s : Sc}
theorem stepX_fail {z : Str} : stepX ini me [.str z] m seen s = .halt m s := rfl
theorem stepX_need {z md : Str} : stepX ini me [.str z, .str md] m seen s = match ini s md with
    | .error c => .cyc c
    | .ok (true, s') => .go 1 m (seen ++ [md]) s'
    | .ok (false, s') => .halt m s' := rfl
theorem stepX_3 {z a b : Str} : stepX ini me [.str z, .str a, .str b] m seen s = if z = "export" then .go 1 m seen (expS s me a (m.get b)) else if z = "try" then (match ini s a with
    | .error c => .cyc c
    | .ok (true, s') => .go 1 (m.set b 1) (seen ++ [a]) s'
    | .ok (false, s') => .go 1 (m.set b 0) seen s') else .go (goes [.str z, .str a, .str b] m) (memo [.str z, .str a, .str b] m) seen s := rfl
theorem stepX_exp {a b : Str} : stepX ini me [.str "export", .str a, .str b] m seen s = .go 1 m seen (expS s me a (m.get b)) := by
  rw [stepX_3, if_pos rfl]
theorem stepX_try {a b : Str} : stepX ini me [.str "try", .str a, .str b] m seen s = match ini s a with
    | .error c => .cyc c
    | .ok (true, s') => .go 1 (m.set b 1) (seen ++ [a]) s'
    | .ok (false, s') => .go 1 (m.set b 0) seen s' := by
  rw [stepX_3, if_neg (by decide +kernel), if_pos rfl]
theorem stepX_read {z x md l : Str} : stepX ini me [.str z, .str x, .str md, .str l] m seen s = .go 1 (m.set x (readV s seen md l)) seen s := rfl
theorem stepX_plain {us : List V} (h : PlainV us) : stepX ini me us m seen s = .go (goes us m) (memo us m) seen s := by
  cases h with
  | set _ => rfl
  | skip _ _ => rfl
  | add _ _ =>
    rw [stepX_3, if_neg (by decide +kernel), if_neg (by decide +kernel)]
end
theorem goes_pos {us : List V} {m : M4} : 1 ≤ goes us m := by
  unfold goes
  split
  · split
    · omega
    · exact Nat.le_refl 1
  · exact Nat.le_refl 1
/-! ### the scene grows -/
def keysA {α : Type} (l : List (Str × α)) : List Str := l.map (·.1)
structure Gr (s s' : Sc) : Prop where
  op : s'.op = s.op
  rs : ∀ k ∈ keysA s.rs, k ∈ keysA s'.rs
  ex : ∀ k ∈ keysA s.ex, k ∈ keysA s'.ex
theorem Gr.refl (s : Sc) : Gr s s := ⟨rfl, fun _ h => h, fun _ h => h⟩
theorem Gr.trans {a b c : Sc} (x : Gr a b) (y : Gr b c) : Gr a c := ⟨y.op.trans x.op, fun k h => y.rs k (x.rs k h), fun k h => y.ex k (x.ex k h)⟩
/-- what is ready or failed, or begun, has exports -/
structure WfS (s : Sc) : Prop where
  op : ∀ k ∈ s.op, k ∈ keysA s.ex
  rs : ∀ k ∈ keysA s.rs, k ∈ keysA s.ex
  nr : (keysA s.rs).Nodup
  nx : (keysA s.ex).Nodup
  ni : ∀ r ∈ s.ex, (keysA r.2).Nodup
def GoodI (ini : ScF) : Prop := ∀ s md b s', WfS s → ini s md = .ok (b, s') → Gr s s' ∧ WfS s' ∧ md ∈ keysA s'.rs ∧ md ∉ s.op
theorem exp_gr {s : Sc} {me : Option Str} {l : Str} {i : Int} (wf : WfS s) (hme : ∀ n, me = some n → n ∈ keysA s.ex) : Gr s (expS s me l i) ∧ WfS (expS s me l i) := by
  cases me with
  | none => exact ⟨Gr.refl s, wf⟩
  | some n =>
    have hn := hme n rfl
    have hk : ∀ k, k ∈ keysA (putA s.ex n (putA ((getA s.ex n).getD []) l i)) ↔ k ∈ keysA s.ex := fun k => by
      unfold keysA
      rw [putA_mem]
      exact ⟨fun z => z.elim (fun e => by rw [e]; exact hn) id, .inr⟩
    refine ⟨⟨rfl, fun _ h => h, fun k h => (hk k).mpr h⟩, ⟨fun k h => (hk k).mpr (wf.op k h), fun k h => (hk k).mpr (wf.rs k h), wf.nr, putA_nodup wf.nx, fun r hr => ?_⟩⟩
    obtain ⟨e0, he0⟩ := getA_some hn
    have ne0 := wf.ni _ (getA_mem he0)
    have hr : r ∈ putA s.ex n (putA ((getA s.ex n).getD []) l i) := hr
    rw [he0] at hr
    unfold putA at hr
    split at hr
    · obtain ⟨y, hy, rfl⟩ := List.mem_map.mp hr
      split
      · exact putA_nodup ne0
      · exact wf.ni y hy
    · rcases List.mem_append.mp hr with h | h
      · exact wf.ni r h
      · rw [List.mem_singleton.mp h]
        exact putA_nodup ne0
/-- a step that goes on: the scene has grown, what is read was initialized -/
theorem step_gr {ini : ScF} (gi : GoodI ini) {me : Option Str} {us : List V} (hus : PlainV us ∨ OtherV us) {m m' : M4} {seen seen' : List Str} {s s' : Sc} {d : Nat} (wf : WfS s) (hme : ∀ n, me = some n → n ∈ keysA s.ex) (hs : ∀ k ∈ seen, k ∈ keysA s.ex)
    (h : stepX ini me us m seen s = .go d m' seen' s') : 1 ≤ d ∧ Gr s s' ∧ WfS s' ∧ ∀ k ∈ seen', k ∈ keysA s'.ex := by
  rcases hus with hp | ho
  · rw [stepX_plain hp] at h
    cases h
    exact ⟨goes_pos, Gr.refl s, wf, hs⟩
  · have snoc : ∀ {md : Str} {s2 : Sc}, Gr s s2 → WfS s2 → md ∈ keysA s2.rs → ∀ k ∈ seen ++ [md], k ∈ keysA s2.ex := fun g w hm k hk => by
      rcases List.mem_append.mp hk with h1 | h1
      · exact g.ex k (hs k h1)
      · rw [List.mem_singleton.mp h1]
        exact w.rs _ hm
    cases ho with
    | exp =>
      rw [stepX_exp] at h
      cases h
      obtain ⟨g, w⟩ := exp_gr (l := _) (i := _) wf hme
      exact ⟨Nat.le_refl 1, g, w, fun k hk => g.ex k (hs k hk)⟩
    | read _ =>
      rw [stepX_read] at h
      cases h
      exact ⟨Nat.le_refl 1, Gr.refl s, wf, hs⟩
    | @need md =>
      rw [stepX_need] at h
      cases hi : ini s md with
      | error c => rw [hi] at h; cases h
      | ok r =>
        obtain ⟨b, s2⟩ := r
        obtain ⟨g, w, hm, _⟩ := gi s md b s2 wf hi
        rw [hi] at h
        cases b with
        | false => cases h
        | true =>
          cases h
          exact ⟨Nat.le_refl 1, g, w, snoc g w hm⟩
    | @try_ md x _ =>
      rw [stepX_try] at h
      cases hi : ini s md with
      | error c => rw [hi] at h; cases h
      | ok r =>
        obtain ⟨b, s2⟩ := r
        obtain ⟨g, w, hm, _⟩ := gi s md b s2 wf hi
        rw [hi] at h
        cases b with
        | false =>
          cases h
          exact ⟨Nat.le_refl 1, g, w, fun k hk => g.ex k (hs k hk)⟩
        | true =>
          cases h
          exact ⟨Nat.le_refl 1, g, w, snoc g w hm⟩
    | fail => rw [stepX_fail] at h; cases h
theorem halt_gr {ini : ScF} (gi : GoodI ini) {me : Option Str} {us : List V} (hus : PlainV us ∨ OtherV us) {m m' : M4} {seen : List Str} {s s' : Sc} (wf : WfS s) (h : stepX ini me us m seen s = .halt m' s') : Gr s s' ∧ WfS s' := by
  rcases hus with hp | ho
  · rw [stepX_plain hp] at h
    cases h
  · cases ho with
    | exp => rw [stepX_exp] at h; cases h
    | read _ => rw [stepX_read] at h; cases h
    | @need md =>
      rw [stepX_need] at h
      cases hi : ini s md with
      | error c => rw [hi] at h; cases h
      | ok r =>
        obtain ⟨b, s2⟩ := r
        obtain ⟨g, w, hm, _⟩ := gi s md b s2 wf hi
        rw [hi] at h
        cases b with
        | false => cases h; exact ⟨g, w⟩
        | true => cases h
    | @try_ md x _ =>
      rw [stepX_try] at h
      cases hi : ini s md with
      | error c => rw [hi] at h; cases h
      | ok r =>
        obtain ⟨b, s2⟩ := r
        rw [hi] at h
        cases b <;> cases h
    | fail =>
      rw [stepX_fail] at h
      cases h
      exact ⟨Gr.refl s, wf⟩
theorem exec_gr {ini : ScF} (gi : GoodI ini) {me : Option Str} {vss : List (List V)} (hv : ∀ us ∈ vss, PlainV us ∨ OtherV us) : ∀ (f pos : Nat) {m m' : M4} {seen : List Str} {s s' : Sc} {b : Bool}, WfS s → (∀ n, me = some n → n ∈ keysA s.ex) → (∀ k ∈ seen, k ∈ keysA s.ex) →
    execS ini me vss f pos m seen s = .ok (b, m', s') → Gr s s' ∧ WfS s'
  | 0, _, _, _, _, s, s', _, wf, _, _, h => by
    cases h
    exact ⟨Gr.refl s, wf⟩
  | f + 1, pos, m, m', seen, s, s', b, wf, hme, hs, h => by
    rw [exec_succ] at h
    cases hp : vss[pos]? with
    | none =>
      rw [hp] at h
      cases h
      exact ⟨Gr.refl s, wf⟩
    | some us =>
      rw [hp] at h
      dsimp only at h
      have hus := hv us (List.mem_of_getElem? hp)
      cases hx : stepX ini me us m seen s with
      | go d m2 seen2 s2 =>
        rw [hx] at h
        obtain ⟨_, g, w, hs2⟩ := step_gr gi hus wf hme hs hx
        obtain ⟨g2, w2⟩ := exec_gr gi hv f (pos + d) w (fun n e => g.ex n (hme n e)) hs2 h
        exact ⟨g.trans g2, w2⟩
      | halt m2 s2 =>
        rw [hx] at h
        cases h
        exact halt_gr gi hus wf hx
      | cyc c => rw [hx] at h; cases h
theorem wf_begin {s : Sc} {md : Str} (wf : WfS s) : WfS ⟨s.op ++ [md], s.rs, putA s.ex md []⟩ := by
  have hk : ∀ k, k ∈ keysA (putA s.ex md ([] : Ints)) ↔ k = md ∨ k ∈ keysA s.ex := fun k => putA_mem
  refine ⟨fun k h => (hk k).mpr ?_, fun k h => (hk k).mpr (.inr (wf.rs k h)), wf.nr, putA_nodup wf.nx, fun r hr => ?_⟩
  · rcases List.mem_append.mp h with h | h
    · exact .inr (wf.op k h)
    · exact .inl (List.mem_singleton.mp h)
  · have hr : r ∈ putA s.ex md [] := hr
    unfold putA at hr
    split at hr
    · obtain ⟨y, hy, rfl⟩ := List.mem_map.mp hr
      split
      · exact List.nodup_nil
      · exact wf.ni y hy
    · rcases List.mem_append.mp hr with h | h
      · exact wf.ni r h
      · rw [List.mem_singleton.mp h]
        exact List.nodup_nil
end Cr
/-! the law's own: texts, names, numbers, steps -/
namespace Cr
open PySem PySem.Spec PyProof.Rows L2 Evl
/-! ### texts of letters -/
theorem join_cps : ∀ ws : List Str, (Txt.join ("" : Str) ws).cps.toList = ws.flatMap fun w => w.cps.toList := by
  have e0 : (("" : Str)).cps.toList = [] := by decide +kernel
  have h : ∀ ws : List Str, (Str.join ("" : Str) ws).cps.toList = ws.flatMap fun w => w.cps.toList := by
    intro ws
    induction ws with
    | nil => rfl
    | cons x r ih =>
      cases r with
      | nil => simp [Str.join]
      | cons y r =>
        rw [show Str.join ("" : Str) (x :: y :: r) = x ++ "" ++ Str.join "" (y :: r) from rfl, Str.cps_append, Str.cps_append, Array.toList_append, Array.toList_append, ih, e0, List.append_nil]
        simp
  intro ws
  rw [TL.join_eq]
  exact h ws
theorem len_toList (x : Str) : x.cps.toList.length = x.length := by simp [Str.length]
theorem name_of {x : Str} {cs : List Nat} (e : x.cps.toList = cs) (h1 : 1 ≤ cs.length) (h2 : cs.length ≤ 8) (h : ∀ c ∈ cs, isLow c = true) : isNameS x = true := by
  have l := len_toList x
  rw [e] at l
  unfold isNameS
  rw [e, decide_eq_true (show (1 : Int) ≤ x.length by omega), decide_eq_true (show (x.length : Int) ≤ 8 by omega), List.all_eq_true.mpr h]
  rfl
def isOne (w : Str) : Prop := ∃ c, w = ⟨#[c]⟩ ∧ isLow c = true
theorem join_ones : ∀ {ws : List Str}, (∀ w ∈ ws, isOne w) → ∃ cs : List Nat, (ws.flatMap fun w => w.cps.toList) = cs ∧ cs.length = ws.length ∧ ∀ c ∈ cs, isLow c = true
  | [], _ => ⟨[], rfl, rfl, by simp⟩
  | w :: r, h => by
    obtain ⟨c, rfl, hc⟩ := h w (List.mem_cons_self ..)
    obtain ⟨cs, e, l, ha⟩ := join_ones fun w hw => h w (List.mem_cons_of_mem _ hw)
    refine ⟨c :: cs, ?_, by simp [l], ?_⟩
    · rw [List.flatMap_cons, e]; rfl
    · intro d hd
      rcases List.mem_cons.mp hd with rfl | hd
      · exact hc
      · exact ha d hd
abbrev abc : Str := "abcdefghijklmnopqrstuvwxyz"
theorem abc_get (i : Nat) (h : i < 26) : abc.cps.toList[i]? = some (97 + i) := by
  have : ∀ i < 26, abc.cps.toList[i]? = some (97 + i) := by decide +kernel
  exact this i h
theorem low_of {i : Nat} (h : i < 26) : isLow (97 + i) = true := by
  unfold isLow
  rw [decide_eq_true (show 97 ≤ 97 + i by omega), decide_eq_true (show 97 + i ≤ 122 by omega)]; rfl
/-- pigeons -/
theorem pigeon : ∀ {ws us : List Str}, ws.Nodup → (∀ w ∈ ws, w ∈ us) → ws.length ≤ us.length
  | [], _, _, _ => Nat.zero_le _
  | w :: ws, us, nd, h => by
    have hw := h w (List.mem_cons_self ..)
    rw [List.nodup_cons] at nd
    have ih := pigeon (us := us.erase w) nd.2 fun x hx => (List.mem_erase_of_ne (fun e : x = w => nd.1 (by rw [← e]; exact hx))).mpr (h x (List.mem_cons_of_mem _ hx))
    rw [List.length_erase_of_mem hw] at ih
    have : 0 < us.length := List.length_pos_of_mem hw
    rw [List.length_cons]
    omega
def spare (i : Nat) : Str := ⟨#[97 + i / 26, 97 + i % 26, 113]⟩
theorem spare_name (i : Nat) (h : i < 676) : isNameS (spare i) = true := by
  refine name_of (x := spare i) (cs := [97 + i / 26, 97 + i % 26, 113]) rfl (by simp) (by simp) fun c hc => ?_
  simp only [List.mem_cons, List.not_mem_nil, or_false] at hc
  rcases hc with rfl | rfl | rfl
  · exact low_of (by omega)
  · exact low_of (by omega)
  · rfl
theorem inV_mem {z : Str} {us : List Str} : inV (.str z) (us.map V.str) = true ↔ z ∈ us := by
  rw [inV_strs, List.any_eq_true]
  constructor
  · rintro ⟨x, hx, e⟩
    rw [beq_iff_eq] at e
    exact e ▸ hx
  · intro h
    exact ⟨z, h, beq_self_eq_true z⟩
theorem Drew.mut {p D : Addr} {H H' : Hp} {o : HO} (d : Drew p H H') (hD : H D = none) (n : D ≠ p) : Drew p H (upd H' D o) := by
  refine ⟨fun a u h => ?_, ?_⟩
  · have hn := (wo_some h).1
    have hD' : a ≠ D := ne_of_none (wo_some h).2 hD
    have q := d.ex a u h
    rw [wo_ne hn] at q ⊢
    rw [upd_ne hD']
    exact q
  · obtain ⟨x, y, z, r⟩ := d.pot
    exact ⟨x, y, by rw [upd_ne n.symm]; exact z, r⟩
theorem Drew.neq {p q : Addr} {H H' : Hp} (d : Drew p H H') (h : H' q = none) : q ≠ p := fun e => by
  obtain ⟨x, y, z, _⟩ := d.pot
  rw [← e, h] at z
  cases z
theorem Drew.new {p q : Addr} {H H' : Hp} {o : HO} (d : Drew p H H') (h : H' q = none) : Drew p H (upd H' q o) := d.trans (Drew.of d.pot (Ex.new h))
/-- an int of at most thirty digits -/
def spInteger : Sp := fun vs H Q _ => ∃ p : Addr, vs = [.ref p] ∧ Pot H p ∧ ∀ (i : Int) H', i.natAbs ≤ 10 ^ 30 → Drew p H H' → Q (.int i) H'
/-- ints of a step are not too great -/
def intsIn (us : List V) : Prop := ∀ i : Int, V.int i ∈ us → i.natAbs ≤ 10 ^ 30
theorem Drew.tps {p : Addr} {H H' : Hp} (d : Drew p H H') (hp : Pot H p) : Tps H H' := fun a xs h => d.at (fun e => by
  obtain ⟨x, y, z, _⟩ := hp
  rw [e, z] at h
  cases h) h
end Cr
/-! words of the law: _law_word, _law_words, as fourteen laws draw them -/
namespace Cr
open PySem PySem.Spec PyProof.Rows L2 Evl
abbrev sWord1 : Stmt := topS 52
abbrev sWords1 : Stmt := topS 53
abbrev nWord1 : List Str := ["_law_pot_here", "_law_used", "_law_letters", "_law_size", "_law_word_here", "_law_spare", "_law_turn", "_law_at", "_law_one"]
abbrev nWords1 : List Str := ["_law_pot_here", "_law_number", "_law_found", "_law_turn"]
theorem scWord1 : FnScope nWord1 ["_law_pot_here", "_law_used"] (defScope sWord1) := ⟨rfl, rfl, rfl, by decide +kernel, rfl, by decide +kernel, by decide +kernel⟩
theorem scWords1 : FnScope nWords1 ["_law_pot_here", "_law_number"] (defScope sWords1) := ⟨rfl, rfl, rfl, by decide +kernel, rfl, by decide +kernel, by decide +kernel⟩
theorem spare_inj {i j : Nat} (h : spare i = spare j) : i = j := by
  have e : (spare i).cps.toList = (spare j).cps.toList := by rw [h]
  have e' : [97 + i / 26, 97 + i % 26, 113] = [97 + j / 26, 97 + j % 26, 113] := e
  injection e' with e1 e2
  injection e2 with e2 _
  omega
theorem spare_nd2 (n : Nat) : ((List.range n).map spare).Nodup := List.Pairwise.map spare (fun _ _ h z => h (spare_inj z)) List.nodup_range
theorem spare_free2 {us : List Str} (h : us.length ≤ 600) : ∃ i, i < 676 ∧ spare i ∉ us := by
  refine Classical.byContradiction fun n => ?_
  have all : ∀ w ∈ (List.range 676).map spare, w ∈ us := fun w hw => by
    obtain ⟨i, hi, rfl⟩ := List.mem_map.mp hw
    exact Classical.byContradiction fun z => n ⟨i, List.mem_range.mp hi, z⟩
  have := pigeon (spare_nd2 676) all
  rw [List.length_map, List.length_range] at this
  omega
def spWord : Sp := fun vs H Q _ => ∃ (p u : Addr) (us : List Str), vs = [.ref p, .ref u] ∧ Pot H p ∧ u ≠ p ∧ H u = some (.lst (us.map V.str)) ∧ us.length ≤ 600 ∧ ∀ x H', isNameS x = true → x ∉ us → Drew p H H' → Q (.str x) H'
def spWords : Sp := fun vs H Q _ => ∃ (p : Addr) (n : Nat), vs = [.ref p, .int (n : Int)] ∧ Pot H p ∧ n ≤ 600 ∧
  ∀ (l : Addr) (xs : List Str) (H' : Hp), H l = none → H' l = some (.lst (xs.map V.str)) → xs.length = n → xs.Nodup → (∀ x ∈ xs, isNameS x = true) → Drew p H H' → Q (.ref l) H'
abbrev ten : List Str := ["module", "need", "try", "fail", "act", "thread", "retry", "unload", "ready", "a"]
theorem ten_name : ∀ x ∈ ten, isNameS x = true := by decide +kernel
theorem ten_get (j : Nat) (h : j < 10) : ∃ x, (ten.map V.str)[j]? = some (.str x) ∧ isNameS x = true := by
  have hl : j < ten.length := h
  exact ⟨ten[j], by rw [List.getElem?_map, List.getElem?_eq_getElem hl]; rfl, ten_name _ (List.getElem_mem hl)⟩
section
variable {P : Program} {w : World} {K : PySem.W.Frag} {mg : Str → Option Value} {base : Heap}
theorem ok_word1 {f : Addr} {fd : FuncData} {k : Nat} (F : Fun K "_law_word" "_law_word" sWord1 f fd) (B : Blt mg) (D : Has P w K mg base k "_law_draw" ["_law_pot_here", "_law_bound"] spDraw) :
    FnG P w K mg base CX0 (k + 1) f fd ["_law_pot_here", "_law_used"] spWord := by
  obtain ⟨fD, fdD, GD, bD, kD, gD⟩ := D.ex
  refine okG F scWord1 (fun vs H Q E h => by obtain ⟨_, _, _, rfl, _⟩ := h; rfl) (fun cdv A outer s H vs Q E hq hr h => ?_)
  obtain ⟨p, u, us, rfl, pot, un, hu, hl, q⟩ := h
  refine ⟨_, pss_cons (ps_set (i := 2) scWord1.nd rfl (.inr rfl) pe_str)
    (pss_cons (ps_set (i := 3) scWord1.nd rfl (.inl rfl) (pe_ix ix_list (pe_lst (pa_cons pe_int (pa_cons pe_int (pa_cons pe_int (pa_cons pe_int (pa_cons (pe_op op_add pe_int (callG GD hq hr (by rfl) gD kD bD .nil pass0 (pa_cons (pv 0) (pa_cons pe_int pa_nil)))) pa_nil)))))) (callG GD hq hr (by rfl) gD kD bD .nil pass0 (pa_cons (pv 0) (pa_cons pe_int pa_nil))) (fun _ _ => rfl)))
    (pss_cons (ps_set (i := 4) scWord1.nd rfl (.inl rfl) (pe_join pe_str (pe_lc (own := [("_law_turn", 6)]) (g := gName 6) (tt := tYes) rfl scWord1.nd (pi_range1 (by rfl) B.range (pa_cons (pv 3) pa_nil)) (blkOk_by (own := [("_law_turn", 6)]) (N := nWord1) (sc := defScope sWord1) (by decide +kernel))
        (fun _ _ _ _ _ => pg_name (i := 6) scWord1.nd rfl (Or.inl rfl)) (fun _ _ _ _ _ => pts_nil) (fun _ _ _ _ _ => pe_ix ix_str (pv 2) (callG GD hq hr (by rfl) gD kD bD .nil pass0 (pa_cons (pv 0) (pa_cons pe_int pa_nil))) (fun _ _ => rfl)))))
    (pss_cut (ps_if (pt_cmpR op_eq (callG GD hq hr (by rfl) gD kD bD .nil pass0 (pa_cons (pv 0) (pa_cons pe_int pa_nil))) pe_int (nomark _))
      (pss_one (ps_set (i := 4) scWord1.nd rfl (.inl rfl) (pe_ix ix_list (pe_lst (pa_cons pe_str (pa_cons pe_str (pa_cons pe_str (pa_cons pe_str (pa_cons pe_str (pa_cons pe_str (pa_cons pe_str (pa_cons pe_str (pa_cons pe_str (pa_cons pe_str pa_nil))))))))))) (callG GD hq hr (by rfl) gD kD bD .nil pass0 (pa_cons (pv 0) (pa_cons pe_int pa_nil))) (fun _ _ => rfl)))) pss_nil)
    (pss_cons (ps_if (pt_cmpR op_in_seq (pv 4) (pv 1) (by rfl))
      (pss_cons (ps_setLc (i := 5) (own := [("_law_at", 7)]) (g := gName 7) (tt := tYes) rfl scWord1.nd rfl rfl (sw_true rfl rfl rfl (by decide +kernel)) (pi_range1 (by rfl) B.range (pa_cons pe_int pa_nil)) (blkOk_by (own := [("_law_at", 7)]) (N := nWord1) (sc := defScope sWord1) (by decide +kernel))
        (fun _ _ _ _ _ => pg_name (i := 7) scWord1.nd rfl (Or.inl rfl)) (fun _ _ _ _ _ => pts_nil)
        (fun _ _ _ _ _ => pe_op op_add_str (pe_op op_add_str (pe_ix ix_str (pv 2) (pe_op op_fdiv (pv 7) pe_int) (fun _ _ => rfl)) (pe_ix ix_str (pv 2) (pe_op op_mod (pv 7) pe_int) (fun _ _ => rfl))) pe_str))
      (pss_one (ps_ret (pe_ix ix_list (pe_lc (own := [("_law_one", 8)]) (g := gName 8) (tt := tTest (tOp (rIn K true) (tVar 8) (tVar 1))) rfl scWord1.nd (pi_list (pv 5)) (blkOk_by (own := [("_law_one", 8)]) (N := nWord1) (sc := defScope sWord1) (by decide +kernel))
        (fun _ _ _ _ _ => pg_name (i := 8) scWord1.nd rfl (Or.inl rfl)) (fun _ _ _ _ _ => by exact pts_one (pt_cmpR op_notIn_seq (pv 8) (pv 1) (by rfl))) (fun _ _ _ _ _ => pv 8)) pe_int (fun _ _ => rfl))))) pss_nil)
    (pss_one (ps_ret (pv 4))))))), ?_⟩
  refine q_asg ev_c fun H0 e0 => ?_
  have r0 : Drew p H H0 := Drew.of pot e0
  refine q_asgAny ⟨.ref p, rfl, p, 8, rfl, by decide, by decide +kernel, r0.pot, fun c1 H1 a1 b1 r1 => ⟨1, c1, rfl, rfl, by show 5 ≤ sizeLine; decide, fun o ho => ?_⟩⟩
  have r01 := r0.trans r1
  have on : o ≠ p := r01.neq ho
  have r1' : Drew p H (upd H1 o (.lst [.int 1, .int 1, .int 2, .int 8, .int (1 + c1)])) := r01.new ho
  refine ⟨.ref p, rfl, p, 5, rfl, by decide, by decide +kernel, r1'.pot, fun d2 H2 a2 b2 r2 => ?_⟩
  obtain ⟨sz, hsz, s1, s8⟩ : ∃ sz : Nat, atI [V.int 1, V.int 1, V.int 2, V.int 8, V.int (1 + c1)] d2 = some (.int (sz : Int)) ∧ 1 ≤ sz ∧ sz ≤ 8 := by
    obtain ⟨j, rfl⟩ := Int.eq_ofNat_of_zero_le a2
    have hj : j = 0 ∨ j = 1 ∨ j = 2 ∨ j = 3 ∨ j = 4 := by omega
    rcases hj with rfl | rfl | rfl | rfl | rfl
    · exact ⟨1, atI_nat rfl, by omega, by omega⟩
    · exact ⟨1, atI_nat rfl, by omega, by omega⟩
    · exact ⟨2, atI_nat rfl, by omega, by omega⟩
    · exact ⟨8, atI_nat rfl, by omega, by omega⟩
    · refine ⟨(1 + c1).toNat, atI_nat (v := V.int (1 + c1)) rfl |>.trans ?_, by omega, by omega⟩
      congr 2; omega
  have r12 := r1'.trans r2
  refine ⟨o, _, d2, .int sz, rfl, rfl, sq_of (r2.at on upd_same), hsz, ?_⟩
  refine q_asgAny ⟨⟨"", rfl⟩, .int (sz : Int), rfl, sz, rfl, by omega, by omega, fun Dl hD => ?_⟩
  have Dn : Dl ≠ p := r12.neq hD
  have HD : H Dl = none := fresh_drew r12 pot hD
  refine lc_range (lo := 0) (n := (sz : Int).toNat) (fun i H3 => ∃ ws : List Str, H3 Dl = some (.lst (ws.map V.str)) ∧ ws.length = i ∧ (∀ w ∈ ws, isOne w) ∧ Drew p H H3)
    ⟨[], upd_same, rfl, by simp, r12.mut HD Dn⟩ (fun i H3 hi hP => ?_) (fun H3 hP => ?_)
  · obtain ⟨ws, hw, hlw, hone, dr⟩ := hP
    refine ⟨rfl, .str abc, rfl, .ref p, rfl, p, 26, rfl, by decide, by decide +kernel, dr.pot, fun d H4 da db dr4 => ?_⟩
    obtain ⟨j, rfl⟩ := Int.eq_ofNat_of_zero_le da
    have hj : j < 26 := by omega
    refine ⟨abc, (j : Int), 97 + j, rfl, rfl, by decide +kernel, atI_nat (abc_get j hj), ws.map V.str, dr4.at Dn hw, sz_lt (by rw [List.length_map]; omega), ws ++ [⟨#[97 + j]⟩], ?_, by simp [hlw], ?_, (dr.trans dr4).mut HD Dn⟩
    · rw [upd_same, List.map_append]; rfl
    · intro w hw'
      rcases List.mem_append.mp hw' with z | z
      · exact hone w z
      · rw [List.mem_singleton.mp z]
        exact ⟨97 + j, rfl, low_of hj⟩
  obtain ⟨ws, hw, hlw, hone, dr⟩ := hP
  obtain ⟨cs, ecs, lcs, hcs⟩ := join_ones hone
  have nm : isNameS (Txt.join "" ws) = true := name_of ((join_cps ws).trans ecs) (by omega) (by omega) hcs
  have lone : ∀ {ws : List Str}, (∀ w ∈ ws, isOne w) → (ws.map (·.length)).sum = ws.length := by
    intro ws
    induction ws with
    | nil => intro _; rfl
    | cons x r ih =>
      intro h
      obtain ⟨c, rfl, _⟩ := h _ (List.mem_cons_self ..)
      rw [List.map_cons, List.sum_cons, ih fun w hw => h w (List.mem_cons_of_mem _ hw), List.length_cons]
      show 1 + r.length = r.length + 1
      omega
  refine ⟨"", Dl, ws, rfl, rfl, .inl (sq_of hw), ?_, ?_⟩
  · have e0 : (("" : Str)).length = 0 := by decide +kernel
    rw [lone hone, e0]
    omega
  generalize hx : Txt.join ("" : Str) ws = x at nm
  refine q_cut (M := fun σ H' => ∃ x : Str, σ = [some (.ref p), some (.ref u), some (.str abc), some (.int (sz : Int)), some (.str x), none, none, none, none] ∧ isNameS x = true ∧ Drew p H H') ?_ ?_
  · refine ⟨.ref p, rfl, p, 12, rfl, by decide, by decide +kernel, dr.pot, fun c H5 c0 c12 r5 => ⟨rfl, _, rfl, ?_⟩⟩
    have r05 := dr.trans r5
    by_cases hc : V.int c = V.int 0
    · rw [decide_eq_true hc]
      refine ⟨by show 10 ≤ sizeLine; decide, fun o2 ho2 => ?_⟩
      have r06 : Drew p H (upd H5 o2 (.lst (ten.map V.str))) := r05.new ho2
      refine ⟨.ref p, rfl, p, 10, rfl, by decide, by decide +kernel, r06.pot, fun d H6 d0 d10 r6 => ?_⟩
      obtain ⟨j, rfl⟩ := Int.eq_ofNat_of_zero_le d0
      obtain ⟨y, hy, ny⟩ := ten_get j (by omega)
      exact ⟨o2, _, (j : Int), .str y, rfl, rfl, sq_of (r6.at (r05.neq ho2) upd_same), atI_nat hy, y, rfl, ny, r06.trans r6⟩
    · rw [decide_eq_false hc]
      exact ⟨x, rfl, nm, r05⟩
  rintro σ H4 ⟨x, rfl, nm, dr⟩
  have hu4 := dr.at un hu
  refine q_when (σ := [some (.ref p), some (.ref u), some (.str abc), some (.int (sz : Int)), some (.str x), none, none, none, none]) (et_test (ev_op (ev_var rfl) (ev_var rfl) (rv_isL (sq_of hu4) rfl (flat_strs _)))) (fun hb H5 e5 => ?_) (fun hb H5 e5 => s_ret (ev_var rfl) fun H6 e6 => q x H6 nm (fun z => by rw [inV_mem.mpr z] at hb; cases hb) (dr.trans (Drew.of dr.pot (e5.trans e6))))
  -- the spare ones
  have lc1 := el_lcW (wi := iRng1 (tCons (tC (.int 676)) tNil)) (g := gName 7) (tt := tYes) (te := tOp _ (tOp _ (tOp rIxS (tVar 2) (tOp (rI CDiv fun i j => .int (i / j)) (tVar 7) (tC (.int 26)))) (tOp rIxS (tVar 2) (tOp (rI (fun _ j => 0 < j) fun i j => .int (i % j)) (tVar 7) (tC (.int 26))))) (tC (.str "q"))) (vs := [7])
    (σ := [some (.ref p), some (.ref u), some (.str abc), some (.int (sz : Int)), some (.str x), none, none, none, none]) (H := H5) (n := 676) (Y := YFn fun i => .int (0 + i)) (fun _ => true) (fun i => .str (spare i)) (by decide)
    (fun H6 e6 R r => ⟨676, rfl, by decide, by decide, r H6 _ _ walk_range (fun _ _ _ z => z) (Ex.refl H6) trivial⟩)
    (fun i y H6 H7 e6 hi hy => by
      obtain ⟨rfl, rfl⟩ := hy
      refine ⟨Ex.refl _, [some (.ref p), some (.ref u), some (.str abc), some (.int (sz : Int)), some (.str x), none, none, some (.int (0 + i)), none], rfl, fun R r => r, fun H8 _ Q q => q H8 (Ex.refl H8), fun _ => ?_⟩
      have e0 : (0 : Int) + (i : Int) = (i : Int) := Int.zero_add _
      rw [e0]
      have ed : ((i : Int) / 26) = ((i / 26 : Nat) : Int) := by omega
      have em : ((i : Int) % 26) = ((i % 26 : Nat) : Int) := by omega
      have i1 : i / 26 < 26 := by omega
      have i2 : i % 26 < 26 := by omega
      refine ev_op (r := fun x y H Q => ∃ i j, x = .str i ∧ y = .str j ∧ i.length + j.length ≤ sizeLine ∧ Q (.str (i ++ j)) H) (x := .str (⟨#[97 + i / 26]⟩ ++ ⟨#[97 + i % 26]⟩))
        (ev_op (r := fun x y H Q => ∃ i j, x = .str i ∧ y = .str j ∧ i.length + j.length ≤ sizeLine ∧ Q (.str (i ++ j)) H)
          (ev_op (ev_var rfl) (ev_op (ev_var rfl) ev_c (rv_I ⟨by decide, by decide⟩)) (rv_ixS (by decide +kernel) (by rw [ed]; exact atI_nat (abc_get _ i1))))
          (ev_op (ev_var rfl) (ev_op (ev_var rfl) ev_c (rv_I (C := fun _ j => 0 < j) (by decide))) (rv_ixS (by decide +kernel) (by rw [em]; exact atI_nat (abc_get _ i2))))
          (rv_val fun H8 _ Q q => ⟨_, _, rfl, rfl, by show 2 ≤ sizeLine; decide, q⟩)) ev_c (rv_val fun H8 _ Q q => ⟨_, _, rfl, rfl, by show 3 ≤ sizeLine; decide, q⟩))
  have eg1 : given 676 (fun _ => true) (fun i => V.str (spare i)) = ((List.range 676).map spare).map V.str := by
    rw [given_all, List.map_map]; rfl
  rw [eg1] at lc1
  refine q_asgL lc1 fun L H6 hL e6 h6 => ?_
  have hu6 := e6 _ _ (e5 _ _ hu4)
  have lc2 := el_lcW (wi := iList K (tVar 5)) (g := gName 8) (tt := tTest (tOp (rIn K true) (tVar 8) (tVar 1))) (te := tVar 8) (vs := [8])
    (σ := [some (.ref p), some (.ref u), some (.str abc), some (.int (sz : Int)), some (.str x), some (.ref L), none, none, none]) (H := H6) (n := 676) (Y := YAt (((List.range 676).map spare).map V.str)) (fun i => !inV (.str (spare i)) (us.map V.str)) (fun i => .str (spare i)) (by decide)
    (fun H7 e7 R r => ⟨.ref L, rfl, L, rfl, ⟨_, sq_of (e7 _ _ h6)⟩, r H7 _ _ (by have z := walk_list (K := K) (a := L) (xs := ((List.range 676).map spare).map V.str); rw [List.length_map, List.length_map, List.length_range] at z; exact z) (fun _ _ e z => ex_l e z) (Ex.refl H7) (sq_of (e7 _ _ h6))⟩)
    (fun i y H7 H8 e7 hi hy => by
      obtain ⟨rfl, hy⟩ := hy
      have ey : y = .str (spare i) := by
        rw [List.getElem?_map, List.getElem?_map, List.getElem?_range hi] at hy
        exact (Option.some.inj hy).symm
      subst ey
      exact ⟨Ex.refl _, [some (.ref p), some (.ref u), some (.str abc), some (.int (sz : Int)), some (.str x), some (.ref L), none, none, some (.str (spare i))], rfl, fun R r => r, et_test (ev_op (ev_var rfl) (ev_var rfl) (rv_niL (sq_of (e7 _ _ hu6)) rfl (flat_strs _))), fun _ => ev_var rfl⟩)
  obtain ⟨i0, hi0, fi0⟩ := spare_free2 hl
  have mem : V.str (spare i0) ∈ given 676 (fun i => !inV (.str (spare i)) (us.map V.str)) (fun i => .str (spare i)) := by
    unfold given
    refine List.mem_map.mpr ⟨i0, List.mem_filter.mpr ⟨List.mem_range.mpr (by omega), ?_⟩, rfl⟩
    rw [Bool.not_eq_true']
    exact Bool.eq_false_iff.mpr fun z => fi0 (inV_mem.mp z)
  cases eg : given 676 (fun i => !inV (.str (spare i)) (us.map V.str)) (fun i => V.str (spare i)) with
  | nil => rw [eg] at mem; cases mem
  | cons y r =>
    have hy : y ∈ given 676 (fun i => !inV (.str (spare i)) (us.map V.str)) (fun i => V.str (spare i)) := by rw [eg]; exact List.mem_cons_self ..
    unfold given at hy
    obtain ⟨i1, h1, rfl⟩ := List.mem_map.mp hy
    have hi1 : i1 < 676 := List.mem_range.mp (List.mem_filter.mp h1).1
    rw [eg] at lc2
    refine s_ret (ev_opL1 lc2 (fun _ _ => ev_c) fun p2 H7 hp2 _ => rv_ixL (sq_of hp2) (atI_nat (j := 0) rfl)) fun H7 e7 => ?_
    have ni : spare i1 ∉ us := fun z => by
      have y := (List.mem_filter.mp h1).2
      rw [inV_mem.mpr z] at y
      cases y
    exact q _ H7 (spare_name i1 (by omega)) ni (dr.trans (Drew.of dr.pot ((e5.trans e6).trans e7)))
theorem ok_words1 {f : Addr} {fd : FuncData} {k : Nat} (F : Fun K "_law_words" "_law_words" sWords1 f fd) (B : Blt mg) (N : Has P w K mg base k "_law_word" ["_law_pot_here", "_law_used"] spWord) :
    FnG P w K mg base CX0 (k + 1) f fd ["_law_pot_here", "_law_number"] spWords := by
  obtain ⟨fN, fdN, GN, bN, kN, gN⟩ := N.ex
  refine okG F scWords1 (fun vs H Q E h => by obtain ⟨_, _, rfl, _⟩ := h; rfl) (fun cdv A outer s H vs Q E hq hr h => ?_)
  obtain ⟨p, n, rfl, pot, hn, q⟩ := h
  refine ⟨_, pss_cons (ps_set (i := 2) scWords1.nd rfl (.inl rfl) (pe_lst pa_nil))
    (pss_cons (ps_for PassesOwn.never rfl (pi_range1 (by rfl) B.range (pa_cons (pv 1) pa_nil)) (pg_name (i := 3) scWords1.nd rfl (.inl rfl))
      (pss_one (ps_expr (pe_bm PySem.F.plainAttrs_list PySem.F.slot_list_append PySem.F.type_list_append mt_append (pv 2) (pa_cons (callG GN hq hr (by rfl) gN kN bN .nil pass0 (pa_cons (pv 0) (pa_cons (pv 2) pa_nil))) pa_nil)))))
    (pss_one (ps_ret (pv 2)))), ?_⟩
  refine ⟨Nat.zero_le _, fun l hl => ?_⟩
  have d0 : Drew p H (upd H l (.lst [])) := Drew.of pot (Ex.new hl)
  have ln : l ≠ p := (Drew.refl pot).neq hl
  refine ⟨.int n, rfl, n, rfl, by omega, by omega, for_range (lo := 0) (n := (n : Int).toNat) (fun i σ H' => ∃ y3 xs, σ = [some (.ref p), some (.int n), some (.ref l), y3] ∧ H' l = some (.lst ((xs : List Str).map V.str)) ∧ xs.length = i ∧ xs.Nodup ∧ (∀ x ∈ xs, isNameS x = true) ∧ Drew p H H')
    ⟨none, [], rfl, upd_same, rfl, List.Pairwise.nil, by simp, d0⟩ (fun i σ H1 hi hP => ?_) (fun σ H1 hP => ?_)⟩
  · obtain ⟨y3, xs, rfl, h1, lx, nd, hx, dr⟩ := hP
    refine ⟨.ref l, rfl, .inl ⟨rfl, _, sq_of h1⟩, .ref p, rfl, .ref l, rfl, p, l, xs, rfl, dr.pot, ln, h1, by omega, fun x H2 nx fx dr2 => ?_⟩
    refine ⟨l, _, .str x, rfl, rfl, dr2.at ln h1, sz_lt (by rw [List.length_map]; omega), _, xs ++ [x], rfl, ?_, by simp [lx], List.nodup_append.mpr ⟨nd, List.pairwise_singleton _ _, fun a ha b hb e => fx (by rw [List.mem_singleton.mp hb] at e; exact e ▸ ha)⟩, ?_, (dr.trans dr2).mut hl ln⟩
    · rw [upd_same, List.map_append]; rfl
    · intro y hy
      rcases List.mem_append.mp hy with z | z
      · exact hx y z
      · rw [List.mem_singleton.mp z]; exact nx
  · obtain ⟨y3, xs, rfl, h1, lx, nd, hx, dr⟩ := hP
    exact ⟨.ref l, rfl, q l xs H1 hl h1 (by omega) nd hx dr⟩
end
end Cr
/-! _law_integer, as six laws draw it -/
namespace Cr
open PySem PySem.Spec PyProof.Rows L2 Evl
abbrev sInt1 : Stmt := topS 55
theorem scInt1 : FnScope ["_law_pot_here"] ["_law_pot_here"] (defScope sInt1) := ⟨rfl, rfl, rfl, by decide +kernel, rfl, by decide +kernel, by decide +kernel⟩
section
variable {P : Program} {w : World} {K : PySem.W.Frag} {mg : Str → Option Value} {base : Heap}
theorem ok_int1 {f : Addr} {fd : FuncData} {k : Nat} (F : Fun K "_law_integer" "_law_integer" sInt1 f fd) (B : Blt mg) (D : Has P w K mg base k "_law_draw" ["_law_pot_here", "_law_bound"] spDraw) : FnG P w K mg base CX0 (k + 1) f fd ["_law_pot_here"] spInteger := by
  obtain ⟨fD, fdD, GD, bD, kD, gD⟩ := D.ex
  refine okG F scInt1 (fun vs H Q E h => by obtain ⟨_, rfl, _⟩ := h; rfl) (fun cdv A outer s H vs Q E hq hr h => ?_)
  obtain ⟨p, rfl, pot, q⟩ := h
  refine ⟨_, pss_one (ps_ret (pe_ix ix_list (pe_lst (pa_cons (pe_op op_sub (callG GD hq hr (by rfl) gD kD bD .nil pass0 (pa_cons (pv 0) (pa_cons pe_int pa_nil))) pe_int)
      (pa_cons (pe_op op_add (pe_op op_sub (callG GD hq hr (by rfl) gD kD bD .nil pass0 (pa_cons (pv 0) (pa_cons (pe_op op_sub (pe_op op_mul pe_int (pe_op op_pow pe_int pe_int)) pe_int) pa_nil))) (pe_op op_pow pe_int pe_int)) pe_int) pa_nil)))
    (pe_callTy call_int1 (by rfl) B.int bInt (pa_cons (pe_cmpR op_eq (callG GD hq hr (by rfl) gD kD bD .nil pass0 (pa_cons (pv 0) (pa_cons pe_int pa_nil))) pe_int (nomark _)) pa_nil)) (fun _ _ => rfl))), ?_⟩
  have big : (10 : Int) ^ (30 : Int).toNat = 1000000000000000000000000000000 := by decide
  have b30 : (10 : Nat) ^ 30 = 1000000000000000000000000000000 := by decide
  refine ⟨.ref p, rfl, p, 5, rfl, by decide, by decide +kernel, pot, fun d1 H1 a1 b1 r1 => ⟨d1, 2, rfl, rfl, .ref p, rfl, 10, 30, rfl, rfl, ⟨by decide, by decide, by decide⟩, 2, _, rfl, rfl, ?_⟩⟩
  have e1 : ((2 : Int) * (10 : Int) ^ (30 : Int).toNat - 1) = 1999999999999999999999999999999 := by decide
  refine ⟨.inl ⟨by decide, by decide⟩, _, 1, rfl, rfl, p, _, rfl, by rw [e1]; decide, by rw [e1]; decide +kernel, r1.pot, fun d2 H2 a2 b2 r2 => ?_⟩
  rw [e1] at b2
  refine ⟨10, 30, rfl, rfl, ⟨by decide, by decide, by decide⟩, d2, _, rfl, rfl, _, 1, rfl, rfl, by show 2 ≤ sizeLine; decide, fun o ho => ?_⟩
  have r12 := r1.trans r2
  have r3 : Drew p H (upd H2 o (.lst [.int (d1 - 2), .int (d2 - (10 : Int) ^ (30 : Int).toNat + 1)])) := r12.new ho
  refine ⟨.ref p, rfl, p, 8, rfl, by decide, by decide +kernel, r3.pot, fun d3 H3 a3 b3 r4 => ⟨rfl, .inr ⟨_, rfl, ?_⟩⟩⟩
  have hl := r4.at (r12.neq ho) upd_same
  by_cases hc : V.int d3 = V.int 0
  · rw [decide_eq_true hc]
    refine ⟨o, _, 1, .int (d2 - (10 : Int) ^ (30 : Int).toNat + 1), rfl, rfl, sq_of hl, atI_nat (j := 1) rfl, q _ _ ?_ (r3.trans r4)⟩
    rw [big, b30]
    omega
  · rw [decide_eq_false hc]
    refine ⟨o, _, 0, .int (d1 - 2), rfl, rfl, sq_of hl, atI_nat (j := 0) rfl, q _ _ ?_ (r3.trans r4)⟩
    rw [b30]
    omega
end
end Cr
/-! _law_local_step, as six laws draw it -/
namespace Cr
open PySem PySem.Spec PyProof.Rows L2 Evl
def isSI : V → Bool
  | .str _ => true
  | .int _ => true
  | _ => false
theorem dV_SI : ∀ {us : List V}, us.all isSI = true → (us.map flD).map dV = us
  | [], _ => rfl
  | v :: r, h => by
    rw [List.all_cons, Bool.and_eq_true] at h
    rw [List.map_cons, List.map_cons, dV_SI h.2]
    cases v with
    | str x => rfl
    | int i => rfl
    | _ => exact nomatch h.1
theorem stepV_ok {us : List V} (h : StepOk us) (hk : us.all isSI = true) : StepV us ∧ intsIn us := by
  obtain ⟨vs, e, sv⟩ := step_bare h.step
  have e1 := PyData.tuple.inj e
  have hv : vs.all isSI = true := List.all_eq_true.mpr fun v hv => by
    have b := List.all_eq_true.mp sv.bare v hv
    cases v <;> first | rfl | exact nomatch b
  have eq : us = vs := by rw [← dV_SI hk, ← dV_SI hv, e1]
  refine ⟨eq ▸ sv, fun i hi => ?_⟩
  have z := List.all_eq_true.mp h.leaf _ hi
  exact of_decide_eq_true z
theorem before_ne {z : Str} {ds : List PyData} (a : Int) (h : isStep (.tuple (.str z :: ds)) = true) (hz : z ≠ "skip") : isBefore (.tuple (.str z :: ds)) a = true := by
  unfold isBefore skipOk
  rw [h, skipLen_ne hz]
  rfl
theorem name_strOk {x : Str} (h : isNameS x = true) : PyData.strOk x = true := by
  unfold isNameS at h
  simp only [Bool.and_eq_true, decide_eq_true_eq] at h
  unfold PyData.strOk
  rw [Array.all_eq_true_iff_forall_mem]
  intro c hc
  have y := List.all_eq_true.mp h.2 c (by simpa using hc)
  unfold isLow at y
  simp only [Bool.and_eq_true, decide_eq_true_eq] at y
  exact decide_eq_true (by omega)
theorem names_lay : ∀ ts : List Str, (∀ x ∈ ts, isNameS x = true) → PyData.canLay0 (.list (ts.map PyData.str)) = true := by
  intro ts hn
  rw [PyData.canLay0]
  induction ts with
  | nil => rfl
  | cons t r ih =>
    rw [List.map_cons, PyData.canLayAll0, ih fun x hx => hn x (List.mem_cons_of_mem _ hx), PyData.canLay0, name_strOk (hn t List.mem_cons_self)]
    rfl
theorem names_deep (ts : List Str) : PyData.depthAll (ts.map PyData.str) = 0 := by
  induction ts with
  | nil => rfl
  | cons t r ih => rw [List.map_cons, PyData.depthAll, ih]; rfl
theorem dp_names {K : PySem.W.Frag} {H : Hp} : ∀ ts : List Str, DpAll K H (ts.map V.str) (ts.map PyData.str)
  | [] => .nil
  | t :: r => .cons (.str t) (dp_names r)
abbrev sLoc : Stmt := topS 56
abbrev nLoc : List Str := ["_law_pot_here", "_law_room", "_law_labels", "_law_is_main", "_law_word_here", "_law_one", "_law_other"]
theorem scLoc : FnScope nLoc ["_law_pot_here", "_law_room", "_law_labels", "_law_is_main"] (defScope sLoc) := ⟨rfl, rfl, rfl, by decide +kernel, rfl, by decide +kernel, by decide +kernel⟩
/-- its module, if it has one, is among these -/
def ModIn (ts : List Str) (us : List V) : Prop := ∀ x, modO (.tuple (us.map flD)) = some x → x ∈ ts
theorem modIn_no {ts : List Str} {z : Str} {r : List V} (h : spotOf z = none) : ModIn ts (.str z :: r) := fun x hx => by
  have e : modO (.tuple (.str z :: r.map flD)) = some x := hx
  rw [modO_none h] at e
  cases e
theorem modIn_yes {ts : List Str} {z m : Str} {r : List V} {i : Nat} (hs : spotOf z = some i) (hm : (PyData.str z :: r.map flD)[i]? = some (.str m)) (h : m ∈ ts) : ModIn ts (.str z :: r) := fun x hx => by
  have e : modO (.tuple (.str z :: r.map flD)) = some x := hx
  rw [modO_some hs hm] at e
  cases e
  exact h
theorem ModIn.mono {ts ts' : List Str} {us : List V} (h : ModIn ts us) (s : ∀ x ∈ ts, x ∈ ts') : ModIn ts' us := fun x hx => s x (h x hx)
/-- no export -/
def noX (us : List V) : Prop := ∀ a b, us ≠ [.str "export", .str a, .str b]
theorem noX_ne {z : Str} {r : List V} (h : ¬ z = "export") : noX (.str z :: r) := fun a b e => by
  injection e with e1 e2
  exact h (V.str.inj e1)
def StepTo (p : Addr) (H : Hp) (a : Nat) (ts : List Str) (c : Bool) (Q : VK) : Prop := ∀ t us H', H t = none → H' t = some (.tup us) → StepV us → intsIn us → ModIn ts us → isBefore (.tuple (us.map flD)) (a : Int) = true → Drew p H H' → (c = true → noX us) → Q (.ref t) H'
def spLoc : Sp := fun vs H Q _ => ∃ (p lb : Addr) (ls : List Str) (a : Nat) (main : Bool), vs = [.ref p, .int (a : Int), .ref lb, .bl main] ∧ Pot H p ∧ lb ≠ p ∧ H lb = some (.lst (ls.map V.str)) ∧ 1 ≤ ls.length ∧ ls.length ≤ 100 ∧ (∀ x ∈ ls, isNameS x = true) ∧ a ≤ 100 ∧ StepTo p H a [] main Q
theorem abcd_var : ∀ c ∈ ("abcd" : Str).cps.toList, isVar (.str ⟨#[c]⟩) = true := by decide +kernel
abbrev six : List Str := ["set", "set", "add", "skip", "export", "export"]
theorem six_get (j : Nat) (h : j < 6) : ∃ x, (six.map V.str)[j]? = some (.str x) ∧ (x = "set" ∨ x = "add" ∨ x = "skip" ∨ x = "export") ∧ (j < 4 → ¬ x = "export") := by
  have hl : j < six.length := h
  refine ⟨six[j], by rw [List.getElem?_map, List.getElem?_eq_getElem hl]; rfl, ?_⟩
  have z : ∀ x ∈ six, x = "set" ∨ x = "add" ∨ x = "skip" ∨ x = "export" := by decide +kernel
  have y : ∀ (i : Nat) (h : i < six.length), i < 4 → ¬ six[i] = "export" := by decide +kernel
  exact ⟨z _ (List.getElem_mem hl), fun h4 => y j hl h4⟩
section
variable {P : Program} {w : World} {K : PySem.W.Frag} {mg : Str → Option Value} {base : Heap}
theorem ok_loc {f : Addr} {fd : FuncData} {k : Nat} (F : Fun K "_law_local_step" "_law_local_step" sLoc f fd) (B : Blt mg) (D : Has P w K mg base k "_law_draw" ["_law_pot_here", "_law_bound"] spDraw) (C : Has P w K mg base k "_law_choice" ["_law_pot_here", "_law_options"] spChoice) (I : Has P w K mg base k "_law_integer" ["_law_pot_here"] spInteger) :
    FnG P w K mg base CX0 (k + 1) f fd ["_law_pot_here", "_law_room", "_law_labels", "_law_is_main"] spLoc := by
  obtain ⟨fD, fdD, GD, bD, kD, gD⟩ := D.ex
  obtain ⟨fC, fdC, GC, bC, kC, gC⟩ := C.ex
  obtain ⟨fI, fdI, GI, bI, kI, gI⟩ := I.ex
  refine okG F scLoc (fun vs H Q E h => by obtain ⟨_, _, _, _, _, rfl, _⟩ := h; rfl) (fun cdv A outer s H vs Q E hq hr h => ?_)
  obtain ⟨p, lb, ls, a, main, rfl, pot, ln, hlb, l1, l100, hls, ha, q⟩ := h
  refine ⟨_, pss_cons (ps_set (i := 4) scLoc.nd rfl (.inl rfl) (pe_ix ix_list (pe_lst (pa_cons pe_str (pa_cons pe_str (pa_cons pe_str (pa_cons pe_str (pa_cons pe_str (pa_cons pe_str pa_nil))))))) (callG GD hq hr (by rfl) gD kD bD .nil pass0 (pa_cons (pv 0) (pa_cons (pe_ifExp (pt_val (pv 3)) pe_int pe_int) pa_nil))) (fun _ _ => rfl)))
    (pss_cons (ps_par (i := 5) (j := 6) (by rfl) scLoc.nd rfl rfl (by decide) rfl rfl (pa_cons (callG GC hq hr (by rfl) gC kC bC .nil pass0 (pa_cons (pv 0) (pa_cons pe_str pa_nil))) (pa_cons (callG GC hq hr (by rfl) gC kC bC .nil pass0 (pa_cons (pv 0) (pa_cons pe_str pa_nil))) pa_nil)) (by rfl))
    (pss_cons (ps_if (PW.pt (pw_or (pt_cmpR op_eq (pv 4) pe_str (nomark _)) (pw_or1 (PW.pt (pw_and (pt_cmpR op_eq (pv 4) pe_str (nomark _)) (pw_and1 (pt_cmpR op_lt (pv 1) pe_int (nomark _)))))))) (pss_one (ps_ret (pe_tup (pa_cons pe_str (pa_cons (pv 5) (pa_cons (callG GI hq hr (by rfl) gI kI bI .nil pass0 (pa_cons (pv 0) pa_nil)) pa_nil)))))) pss_nil)
    (pss_cons (ps_if (pt_cmpR op_eq (pv 4) pe_str (nomark _)) (pss_one (ps_ret (pe_tup (pa_cons pe_str (pa_cons (pv 5) (pa_cons (pv 6) pa_nil)))))) pss_nil)
    (pss_one (ps_ret (pe_ifExp (pt_cmpR op_eq (pv 4) pe_str (nomark _)) (pe_tup (pa_cons pe_str (pa_cons (pv 5) (pa_cons (pe_op op_add pe_int (callG GD hq hr (by rfl) gD kD bD .nil pass0 (pa_cons (pv 0) (pa_cons (pv 1) pa_nil)))) pa_nil))))
      (pe_tup (pa_cons pe_str (pa_cons (callG GC hq hr (by rfl) gC kC bC .nil pass0 (pa_cons (pv 0) (pa_cons (pv 2) pa_nil))) (pa_cons (pv 5) pa_nil))))))))))  , ?_⟩
  have out : ∀ {us : List V} {H' : Hp} {t : Addr}, StepOk us → us.all isSI = true → ModIn [] us → isBefore (.tuple (us.map flD)) (a : Int) = true → Drew p H H' → H' t = none → (main = true → noX us) → Q (.ref t) (upd H' t (.tup us)) := fun {us H' t} so si mi bf r zt nx =>
    q t us _ (fresh_drew r pot zt) upd_same (stepV_ok so si).1 (stepV_ok so si).2 mi bf (r.new zt) nx
  refine q_asgAny ⟨by show 6 ≤ sizeLine; decide, fun o ho => ?_⟩
  have r1 : Drew p H (upd H o (.lst (six.map V.str))) := (Drew.refl pot).new ho
  have on : o ≠ p := (Drew.refl pot).neq ho
  have e30 : (10 : Nat) ^ 30 = 1000000000000000000000000000000 := by decide
  obtain ⟨b, hb, hbm, hev⟩ : ∃ b : Int, (b = 4 ∨ b = 6) ∧ (main = true → b = 4) ∧ Ev (tIf (tB (tVar 3)) (tC (.int 4)) (tC (.int 6))) (L2.start nLoc [.ref p, .int (a : Int), .ref lb, .bl main]) (upd H o (.lst (six.map V.str))) (.int b) := by
    cases main
    · exact ⟨6, .inr rfl, (fun z => nomatch z), ev_if (b := false) (et_B (ev_var rfl)) (fun z => nomatch z) fun _ => ev_c⟩
    · exact ⟨4, .inl rfl, (fun _ => rfl), ev_if (b := true) (et_B (ev_var rfl)) (fun _ => ev_c) fun z => nomatch z⟩
  refine ⟨.ref p, rfl, hev _ (Ex.refl _) _ fun H2 e2 => ⟨p, b, rfl, by omega, by rcases hb with rfl | rfl <;> decide +kernel, r1.pot.ex e2, fun d H3 d0 db r3 => ?_⟩⟩
  have r13 := (r1.trans (Drew.of r1.pot e2)).trans r3
  obtain ⟨j, rfl⟩ := Int.eq_ofNat_of_zero_le d0
  obtain ⟨x, hx, hx4, hx5⟩ := six_get j (by omega)
  refine ⟨o, _, (j : Int), .str x, rfl, rfl, sq_of (r3.at on (e2 _ _ upd_same)), atI_nat hx, ?_⟩
  refine ⟨.ref p, rfl, p, r13.pot, .inr ⟨"abcd", rfl, by decide +kernel, by decide +kernel, fun c H4 hc r4 => ?_⟩⟩
  have r14 := r13.trans r4
  refine ⟨.ref p, rfl, p, r14.pot, .inr ⟨"abcd", rfl, by decide +kernel, by decide +kernel, fun c2 H5 hc2 r5 => ⟨.str ⟨#[c]⟩, .str ⟨#[c2]⟩, rfl, ?_⟩⟩⟩
  have r15 := r14.trans r5
  have v1 := abcd_var c hc
  have v2 := abcd_var c2 hc2
  generalize (⟨#[c]⟩ : Str) = y1 at v1
  generalize (⟨#[c2]⟩ : Str) = y2 at v2
  refine q_when (b := decide (V.str x = V.str "set") || (decide (V.str x = V.str "skip") && decide ((a : Int) < 1))) (et_or (et_test (ev_op (ev_var rfl) ev_c (rv_eq rfl))) fun _ => et_and (et_test (ev_op (ev_var rfl) ev_c (rv_eq rfl))) fun _ => et_test (ev_op (ev_var rfl) ev_c rv_I0)) (fun hb1 H6 e6 => ?_) (fun hb1 H6 e6 => ?_)
  · have r16 := r15.trans (Drew.of r15.pot e6)
    refine ⟨.str y1, rfl, .ref p, rfl, p, rfl, r16.pot, fun i H7 hi r7 => ⟨by show 3 ≤ sizeLine; decide, fun t zt => ?_⟩⟩
    have so := st_set v1 hi
    exact out so rfl (modIn_no (by decide +kernel)) (before_ne _ so.step (by decide +kernel)) (r16.trans r7) zt fun _ => noX_ne (by decide +kernel)
  have r16 := r15.trans (Drew.of r15.pot e6)
  rw [Bool.or_eq_false_iff] at hb1
  have ns : x ≠ "set" := fun e => by rw [e, decide_eq_true rfl] at hb1; exact absurd hb1.1 (by decide)
  refine q_when (et_test (ev_op (ev_var rfl) ev_c (rv_eq rfl))) (fun hb2 H7 e7 => ?_) (fun hb2 H7 e7 => ?_)
  · have r17 := r16.trans (Drew.of r16.pot e7)
    have so := st_add v1 v2
    exact ⟨.str y1, rfl, .str y2, rfl, by show 3 ≤ sizeLine; decide, fun t zt => out so rfl (modIn_no (by decide +kernel)) (before_ne _ so.step (by decide +kernel)) r17 zt fun _ => noX_ne (by decide +kernel)⟩
  have r17 := r16.trans (Drew.of r16.pot e7)
  have na : x ≠ "add" := fun e => by rw [e, decide_eq_true rfl] at hb2; exact absurd hb2 (by decide)
  refine ev_op (ev_var rfl) ev_c (rv_eq rfl) H7 (Ex.refl H7) _ fun H8 e8 => ⟨_, rfl, ?_⟩
  have r18 := r17.trans (Drew.of r17.pot e8)
  by_cases hk : V.str x = V.str "skip"
  · rw [decide_eq_true hk]
    have apos : 1 ≤ (a : Int) := by
      have z := hb1.2
      rw [decide_eq_true hk, Bool.true_and] at z
      have := of_decide_eq_false z
      omega
    have la : ((a : Nat) : Int).natAbs.log2 < 9000 := by
      rw [Int.natAbs_natCast]
      exact Nat.lt_of_le_of_lt (Nat.log2_le_self a) (by omega)
    refine ⟨.str y1, rfl, .ref p, rfl, .int (a : Int), rfl, p, (a : Int), rfl, by omega, la, r18.pot, fun kk H9 k0 k1 r9 => ⟨1, kk, rfl, rfl, by show 3 ≤ sizeLine; decide, fun t zt => ?_⟩⟩
    have so : StepOk [.str "skip", .str y1, .int (1 + kk)] := st_skip v1 (by omega) (by rw [e30]; omega)
    refine out so rfl (modIn_no (by decide +kernel)) ?_ (r18.trans r9) zt fun _ => noX_ne (by decide +kernel)
    unfold isBefore
    rw [so.step, Bool.true_and]
    show decide (1 + kk ≤ (a : Int)) = true
    exact decide_eq_true (by omega)
  · rw [decide_eq_false hk]
    have hlb8 := r18.at ln hlb
    refine ⟨.ref p, rfl, .ref lb, rfl, p, r18.pot, .inl ⟨lb, _, rfl, ln, hlb8, by rw [List.length_map]; omega, by rw [List.length_map]; omega, fun v H9 hv r9 => ?_⟩⟩
    obtain ⟨nm, hnm, rfl⟩ := List.mem_map.mp hv
    have so := st_export (hls nm hnm) v1
    exact ⟨.str y1, rfl, by show 3 ≤ sizeLine; decide, fun t zt => out so rfl (modIn_no (by decide +kernel)) (before_ne _ so.step (by decide +kernel)) (r18.trans r9) zt fun hm => by
      have h4 := hbm hm
      have hne := hx5 (by omega)
      rcases hx4 with h | h | h | h
      · exact absurd h ns
      · exact absurd h na
      · exact absurd (by rw [h]) hk
      · exact absurd h hne⟩
end
end Cr
/-! _law_read_step, as six laws draw it -/
namespace Cr
open PySem PySem.Spec PyProof.Rows L2 Evl
abbrev sRead : Stmt := topS 57
abbrev nRead : List Str := ["_law_pot_here", "_law_targets", "_law_labels", "_law_earlier", "_law_known", "_law_module", "_law_step"]
theorem scRead : FnScope nRead ["_law_pot_here", "_law_targets", "_law_labels", "_law_earlier"] (defScope sRead) := ⟨rfl, rfl, rfl, by decide +kernel, rfl, by decide +kernel, by decide +kernel⟩
theorem plain_or2 {us : List V} (h : StepV us) : PlainV us ∨ OtherV us := by
  cases e : isPlain (.tuple (us.map flD)) with
  | true => exact .inl (plain_of h e)
  | false => exact .inr (other_of h e)
/-- does a step need a module, and which -/
def isNT (us : List V) : Bool := inV (us.getD 0 .non) [.str "need", .str "try"]
theorem nt_no {z : Str} {r : List V} {α : Prop} (h : inV (.str z) [.str "need", .str "try"] = false) (hn : isNT (.str z :: r) = true) : α := by
  have e : isNT (.str z :: r) = inV (.str z) [.str "need", .str "try"] := rfl
  rw [e, h] at hn
  cases hn
theorem nt_name {us : List V} (h : StepV us) (hn : isNT us = true) : ∃ x, us[1]? = some (.str x) ∧ isNameS x = true := by
  rcases plain_or2 h with pl | ov
  · cases pl <;> exact nt_no (by decide +kernel) hn
  · have hs := h.step
    cases ov with
    | exp => exact nt_no (by decide +kernel) hn
    | read => exact nt_no (by decide +kernel) hn
    | fail => exact nt_no (by decide +kernel) hn
    | @need m =>
      refine ⟨m, rfl, ?_⟩
      have z : isStep (.tuple (.str "need" :: [.str m])) = true := hs
      rw [isStep_eq sh_need, items1, it_mod] at z
      exact (Bool.and_eq_true_iff.mp z).2
    | @try_ m x hx =>
      refine ⟨m, rfl, ?_⟩
      have z : isStep (.tuple (.str "try" :: [.str m, .str x])) = true := hs
      rw [isStep_eq sh_try, items2, it_mod] at z
      exact (Bool.and_eq_true_iff.mp (Bool.and_eq_true_iff.mp z).2).1
theorem nt_in {ts : List Str} {us : List V} (h : StepV us) (hn : isNT us = true) (hm : ModIn ts us) : ∃ x, us[1]? = some (.str x) ∧ x ∈ ts := by
  rcases plain_or2 h with pl | ov
  · cases pl <;> exact nt_no (by decide +kernel) hn
  · cases ov with
    | exp => exact nt_no (by decide +kernel) hn
    | read => exact nt_no (by decide +kernel) hn
    | fail => exact nt_no (by decide +kernel) hn
    | @need m => exact ⟨m, rfl, hm m (modO_some (z := "need") (ds := [.str m]) (i := 1) (by decide +kernel) rfl)⟩
    | @try_ m x hx => exact ⟨m, rfl, hm m (modO_some (z := "try") (ds := [.str m, .str x]) (i := 1) (by decide +kernel) rfl)⟩
def spRead : Sp := fun vs H Q _ => ∃ (p tg lb er : Addr) (ts ls : List Str) (xs : List V) (vss : List (List V)) (a : Nat), vs = [.ref p, .ref tg, .ref lb, .ref er] ∧ Pot H p ∧ tg ≠ p ∧ H tg = some (.lst (ts.map V.str)) ∧ 1 ≤ ts.length ∧ ts.length ≤ 100 ∧ (∀ x ∈ ts, isNameS x = true) ∧
  lb ≠ p ∧ H lb = some (.lst (ls.map V.str)) ∧ 1 ≤ ls.length ∧ ls.length ≤ 100 ∧ (∀ x ∈ ls, isNameS x = true) ∧ er ≠ p ∧ H er = some (.lst xs) ∧ Steps H xs vss ∧ vss.length ≤ 100 ∧ (∀ us ∈ vss, StepV us) ∧ (∀ us ∈ vss, ModIn ts us) ∧ StepTo p H a ts true Q
section
variable {P : Program} {w : World} {K : PySem.W.Frag} {mg : Str → Option Value} {base : Heap}
theorem ok_read {f : Addr} {fd : FuncData} {k : Nat} (F : Fun K "_law_read_step" "_law_read_step" sRead f fd) (B : Blt mg) (C : Has P w K mg base k "_law_choice" ["_law_pot_here", "_law_options"] spChoice) :
    FnG P w K mg base CX0 (k + 1) f fd ["_law_pot_here", "_law_targets", "_law_labels", "_law_earlier"] spRead := by
  obtain ⟨fC, fdC, GC, bC, kC, gC⟩ := C.ex
  refine okG F scRead (fun vs H Q E h => by obtain ⟨_, _, _, _, _, _, _, _, _, rfl, _⟩ := h; rfl) (fun cdv A outer s H vs Q E hq hr h => ?_)
  obtain ⟨p, tg, lb, er, ts, ls, xs, vss, a, rfl, pot, tn, htg, t1, t100, hts, ln, hlb, l1, l100, hls, en, her, hst, v100, hV, hMi, q⟩ := h
  refine ⟨_, pss_cons (ps_setLc (i := 4) (own := [("_law_step", 6)]) (g := gName 6) (tt := tTest (tOp (rIn K false) (tOp (rIxT K) (tVar 6) (tC (.int 0))) (tTup (tCons (tC (.str "need")) (tCons (tC (.str "try")) tNil))))) (te := tOp (rIxT K) (tVar 6) (tC (.int 1))) rfl scRead.nd rfl rfl (sw_true rfl rfl rfl (by decide +kernel)) (pi_list (pv 3)) (blkOk_by (own := [("_law_step", 6)]) (N := nRead) (sc := defScope sRead) (by decide +kernel))
        (fun _ _ _ _ _ => pg_name (i := 6) scRead.nd rfl (Or.inl rfl)) (fun _ _ _ _ _ => by exact pts_one (pt_cmpR op_in_seq (pe_ix ix_tup (pv 6) pe_int (fun _ _ => rfl)) (pe_tup (pa_cons pe_str (pa_cons pe_str pa_nil))) (by rfl))) (fun _ _ _ _ _ => by exact pe_ix ix_tup (pv 6) pe_int (fun _ _ => rfl)))
    (pss_cons (ps_set (i := 5) scRead.nd rfl (.inl rfl) (callG GC hq hr (by rfl) gC kC bC .nil pass0 (pa_cons (pv 0) (pa_cons (pe_op op_cat (pe_op op_cat (pe_op op_cat (pv 1) (pv 4)) (pv 4)) (pv 4)) pa_nil))))
    (pss_one (ps_ret (pe_tup (pa_cons pe_str (pa_cons (callG GC hq hr (by rfl) gC kC bC .nil pass0 (pa_cons (pv 0) (pa_cons pe_str pa_nil))) (pa_cons (pv 5) (pa_cons (callG GC hq hr (by rfl) gC kC bC .nil pass0 (pa_cons (pv 0) (pa_cons (pv 2) pa_nil))) pa_nil)))))))), ?_⟩
  have out : ∀ {us : List V} {H' : Hp} {t : Addr}, StepOk us → us.all isSI = true → ModIn ts us → isBefore (.tuple (us.map flD)) (a : Int) = true → Drew p H H' → H' t = none → noX us → Q (.ref t) (upd H' t (.tup us)) := fun {us H' t} so si mi bf r zt nx =>
    q t us _ (fresh_drew r pot zt) upd_same (stepV_ok so si).1 (stepV_ok so si).2 mi bf (r.new zt) fun _ => nx
  have lx := hst.length
  have lc := el_lcW (wi := iList K (tVar 3)) (g := gName 6) (tt := tTest (tOp (rIn K false) (tOp (rIxT K) (tVar 6) (tC (.int 0))) (tTup (tCons (tC (.str "need")) (tCons (tC (.str "try")) tNil))))) (te := tOp (rIxT K) (tVar 6) (tC (.int 1))) (vs := [6])
    (σ := [some (.ref p), some (.ref tg), some (.ref lb), some (.ref er), none, none, none]) (H := H) (n := xs.length) (Y := YAt xs) (fun i => isNT (vss.getD i [])) (fun i => (vss.getD i []).getD 1 .non) (by omega)
    (fun H1 e1 R r => ⟨.ref er, rfl, er, rfl, ⟨_, sq_of (e1 _ _ her)⟩, r H1 _ _ (walk_list (K := K) (a := er) (xs := xs)) (fun _ _ e z => ex_l e z) (Ex.refl H1) (sq_of (e1 _ _ her))⟩)
    (fun i y H1 H2 e1 hi hy => by
      obtain ⟨rfl, hy⟩ := hy
      have hiv : i < vss.length := by omega
      obtain ⟨t, ht, hT⟩ := hst.get (List.getElem?_eq_getElem hiv)
      rw [ht] at hy
      cases hy
      have gd : vss.getD i [] = vss[i] := by rw [List.getD_eq_getElem?_getD, List.getElem?_eq_getElem hiv]; rfl
      have sv := hV _ (List.getElem_mem hiv)
      have hT1 := e1 _ _ hT
      obtain ⟨y0, h0⟩ : ∃ y0, vss[i][0]? = some y0 := ⟨_, List.getElem?_eq_getElem sv.len1⟩
      have e0 : (vss[i]).getD 0 .non = y0 := by rw [List.getD_eq_getElem?_getD, h0]; rfl
      have f0 : flatV y0 = true := List.all_eq_true.mp (stepV_flat sv) _ (List.mem_of_getElem? h0)
      refine ⟨Ex.refl _, [some (.ref p), some (.ref tg), some (.ref lb), some (.ref er), none, none, some (.ref t)], rfl, fun R r => r, ?_, fun hn => ?_⟩
      · refine et_is (et_test (ev_inU (ev_op (ev_var rfl) ev_c (rv_ixT (st_of hT1) (atI_nat (j := 0) h0))) (eu_tup (ea_cons ev_c (ea_cons ev_c ea_nil)) (by show 2 ≤ 100000; decide)) f0 rfl)) ?_
        unfold isNT
        rw [gd, e0]
      · rw [gd] at hn
        obtain ⟨nm, h1, _⟩ := nt_name sv hn
        refine ev_is (ev_op (ev_var rfl) ev_c (rv_ixT (st_of hT1) (atI_nat (j := 1) h1))) ?_
        rw [gd, List.getD_eq_getElem?_getD, h1]
        rfl)
  obtain ⟨ns, hns, nn, nl⟩ : ∃ ns : List Str, given xs.length (fun i => isNT (vss.getD i [])) (fun i => (vss.getD i []).getD 1 .non) = ns.map V.str ∧ (∀ x ∈ ns, x ∈ ts) ∧ ns.length ≤ 100 := by
    unfold given
    have all : ∀ l : List Nat, (∀ i ∈ l, i < vss.length ∧ isNT (vss.getD i []) = true) → ∃ ns : List Str, l.map (fun i => (vss.getD i []).getD 1 V.non) = ns.map V.str ∧ (∀ x ∈ ns, x ∈ ts) ∧ ns.length = l.length := by
      intro l
      induction l with
      | nil => exact fun _ => ⟨[], rfl, (fun _ h => nomatch h), rfl⟩
      | cons i r ih =>
        intro h
        obtain ⟨ns, e1, e2, e3⟩ := ih fun j hj => h j (List.mem_cons_of_mem _ hj)
        obtain ⟨hi, hn⟩ := h i List.mem_cons_self
        have gd : vss.getD i [] = vss[i] := by rw [List.getD_eq_getElem?_getD, List.getElem?_eq_getElem hi]; rfl
        rw [gd] at hn
        obtain ⟨nm, h1, h2⟩ := nt_in (hV _ (List.getElem_mem hi)) hn (hMi _ (List.getElem_mem hi))
        refine ⟨nm :: ns, ?_, fun x hx => ?_, by rw [List.length_cons, List.length_cons, e3]⟩
        · rw [List.map_cons, List.map_cons, e1, gd, List.getD_eq_getElem?_getD, h1]; rfl
        · rcases List.mem_cons.mp hx with rfl | hx
          · exact h2
          · exact e2 x hx
    obtain ⟨ns, e1, e2, e3⟩ := all ((List.range xs.length).filter fun i => isNT (vss.getD i [])) fun i hi => by
      obtain ⟨h1, h2⟩ := List.mem_filter.mp hi
      exact ⟨by have := List.mem_range.mp h1; omega, h2⟩
    refine ⟨ns, e1, e2, ?_⟩
    have := List.length_filter_le (fun i => isNT (vss.getD i [])) (List.range xs.length)
    rw [List.length_range] at this
    omega
  rw [hns] at lc
  refine q_asgL lc fun Kn H1 zK e1 hK => ?_
  have r1 : Drew p H H1 := Drew.of pot e1
  have htg1 := r1.at tn htg
  have nK : ∀ {c : Addr} {H' : Hp}, H' Kn = some (.lst (ns.map V.str)) → H' c = none → Kn ≠ c := fun h z e => by rw [← e, h] at z; cases z
  have le : ∀ {n : Nat}, n ≤ 1000 → n ≤ sizeLine := fun h => by rw [sizeLine_eq]; omega
  refine q_asgAny ⟨.ref p, rfl, .ref tg, rfl, .ref Kn, rfl, tg, Kn, _, _, rfl, rfl, htg1, hK, le (by rw [List.length_map, List.length_map]; omega), fun p1 z1 => ?_⟩
  have r2 := r1.new (o := .lst (ts.map V.str ++ ns.map V.str)) z1
  have hK2 : (upd H1 p1 (.lst (ts.map V.str ++ ns.map V.str))) Kn = some (.lst (ns.map V.str)) := by rw [upd_ne (nK hK z1)]; exact hK
  refine ⟨.ref Kn, rfl, p1, Kn, _, _, rfl, rfl, upd_same, hK2, le (by rw [List.length_append, List.length_map, List.length_map]; omega), fun p2 z2 => ?_⟩
  have r3 := r2.new (o := .lst (ts.map V.str ++ ns.map V.str ++ ns.map V.str)) z2
  have hK3 := (show (upd (upd H1 p1 (.lst (ts.map V.str ++ ns.map V.str))) p2 (.lst (ts.map V.str ++ ns.map V.str ++ ns.map V.str))) Kn = some (.lst (ns.map V.str)) by rw [upd_ne (nK hK2 z2)]; exact hK2)
  refine ⟨.ref Kn, rfl, p2, Kn, _, _, rfl, rfl, upd_same, hK3, le (by rw [List.length_append, List.length_append, List.length_map, List.length_map]; omega), fun p3 z3 => ?_⟩
  have r4 := r3.new (o := .lst (ts.map V.str ++ ns.map V.str ++ ns.map V.str ++ ns.map V.str)) z3
  refine ⟨p, r4.pot, .inl ⟨p3, _, rfl, r3.neq z3, upd_same, by rw [List.length_append, List.length_append, List.length_append, List.length_map, List.length_map]; omega, by rw [List.length_append, List.length_append, List.length_append, List.length_map, List.length_map]; omega, fun v H5 hv r5 => ?_⟩⟩
  obtain ⟨md, rfl, hmd⟩ : ∃ md, v = .str md ∧ md ∈ ts := by
    simp only [List.mem_append, List.mem_map] at hv
    rcases hv with ((⟨x, h1, h2⟩ | ⟨x, h1, h2⟩) | ⟨x, h1, h2⟩) | ⟨x, h1, h2⟩
    · exact ⟨x, h2.symm, h1⟩
    · exact ⟨x, h2.symm, nn x h1⟩
    · exact ⟨x, h2.symm, nn x h1⟩
    · exact ⟨x, h2.symm, nn x h1⟩
  have r05 := r4.trans r5
  refine ⟨.ref p, rfl, p, r05.pot, .inr ⟨"abcd", rfl, by decide +kernel, by decide +kernel, fun c H6 hc r6 => ?_⟩⟩
  have r06 := r05.trans r6
  have v1 := abcd_var c hc
  generalize (⟨#[c]⟩ : Str) = y1 at v1
  refine ⟨.str md, rfl, .ref p, rfl, .ref lb, rfl, p, r06.pot, .inl ⟨lb, _, rfl, ln, r06.at ln hlb, by rw [List.length_map]; omega, by rw [List.length_map]; omega, fun v H7 hv r7 => ⟨by show 4 ≤ sizeLine; decide, fun t zt => ?_⟩⟩⟩
  obtain ⟨nm, hnm, rfl⟩ := List.mem_map.mp hv
  have so := st_read v1 (hts md hmd) (hls nm hnm)
  exact out so rfl (modIn_yes (i := 2) (by decide +kernel) rfl hmd) (before_ne _ so.step (by decide +kernel)) (r06.trans r7) zt (noX_ne (by decide +kernel))
end
end Cr
/-! plain runs (pure): programs as values, the scene is kept, what is still to do -/
namespace Cr
open PySem PySem.Spec PyProof.Rows L2 Evl
theorem step_vs {ds : List PyData} (h : isStep (.tuple ds) = true) : (ds.map dV).map flD = ds ∧ StepV (ds.map dV) := by
  obtain ⟨vs, e, sv⟩ := step_bare h
  have e : ds = vs.map flD := by injection e
  have back : ∀ vs : List V, vs.all bare8 = true → (vs.map flD).map dV = vs := by
    intro vs
    induction vs with
    | nil => exact fun _ => rfl
    | cons v r ih =>
      intro hb
      rw [List.all_cons, Bool.and_eq_true] at hb
      rw [List.map_cons, List.map_cons, ih hb.2]
      cases v with
      | int i => rfl
      | str x => rfl
      | _ => exact nomatch hb.1
  rw [e, back vs sv.bare]
  exact ⟨rfl, sv⟩
theorem vsP_steps {p : Prog} (h : ProgV p) : stepsD (vsP p) = p.map PyData.tuple := by
  unfold stepsD vsP
  rw [List.map_map]
  refine List.map_congr_left fun ds hds => ?_
  show PyData.tuple ((ds.map dV).map flD) = _
  rw [(step_vs (h.st ds hds)).1]
theorem vsP_v {p : Prog} (h : ProgV p) : ∀ us ∈ vsP p, StepV us := fun us hu => by
  obtain ⟨ds, hds, rfl⟩ := List.mem_map.mp hu
  exact (step_vs (h.st ds hds)).2
theorem vsP_or {p : Prog} (h : ProgV p) : ∀ us ∈ vsP p, PlainV us ∨ OtherV us := fun us hu => plain_or2 (vsP_v h us hu)
theorem vsP_len (p : Prog) : (vsP p).length = p.length := List.length_map ..
/-- a skip ends in the program -/
def FitsP (vss : List (List V)) : Prop := ∀ (pos : Nat) us m, vss[pos]? = some us → pos + goes us m ≤ vss.length
theorem vsP_fits {p : Prog} (h : ProgV p) : FitsP (vsP p) := fun pos us m hp => by
  have hlt : pos < (vsP p).length := (List.getElem?_eq_some_iff.mp hp).1
  rcases vsP_or h us (List.mem_of_getElem? hp) with pl | ov
  · unfold goes
    split
    · rename_i z x i
      split
      · rename_i hz
        obtain ⟨ds, hds, e⟩ : ∃ ds, p[pos]? = some ds ∧ ds.map dV = [.str z, .str x, .int i] := by
          unfold vsP at hp
          rw [List.getElem?_map] at hp
          obtain ⟨ds, h1, h2⟩ := Option.map_eq_some_iff.mp hp
          exact ⟨ds, h1, h2⟩
        have hb := h.bf pos ds hds
        have sv := step_vs (h.st ds (List.mem_of_getElem? hds))
        rw [e] at sv
        rw [← sv.1] at hb
        have hz1 : z = "skip" := hz.1
        subst hz1
        have hb : (isStep _ && skipOk ((p.length : Int) - pos - 1) (.tuple [.str "skip", .str x, .int i])) = true := hb
        have hb2 := (Bool.and_eq_true_iff.mp hb).2
        have : i ≤ (p.length : Int) - pos - 1 := of_decide_eq_true hb2
        rw [vsP_len] at hlt ⊢
        omega
      · omega
    · omega
  · cases ov <;> exact hlt
/-- each module's program is known, its modules too -/
structure LibR (L : Lib) : Prop where
  pv : ∀ n, ProgV (progL L n)
theorem progL_v {L : Lib} (h : LibV L) : LibR L := ⟨fun n => by
  unfold progL
  cases z : rowL L n with
  | none => exact ⟨Nat.zero_le _, (fun ds h => nomatch h), (fun j ds h => by cases h), (fun ds h => nomatch h)⟩
  | some r => exact h.ok r (rowL_mem z).1⟩
/-! ### the scene is kept -/
theorem init_good {L : Lib} (lr : LibR L) : ∀ n, GoodI (initS L n)
  | 0 => fun s md b s' _ h => by cases h
  | n + 1 => fun s md b s' wf h => by
    rw [init_succ] at h
    by_cases h1 : md ∈ s.op
    · rw [if_pos h1] at h
      cases h
    rw [if_neg h1] at h
    cases h2 : getA s.rs md with
    | some c =>
      rw [h2] at h
      cases h
      exact ⟨Gr.refl s, wf, getA_key.mp (by rw [h2]; rfl), h1⟩
    | none =>
      rw [h2] at h
      dsimp only at h
      cases hx : execS (initS L n) (some md) (vsP (progL L md)) ((progL L md).length + 1) 0 .zero [md] ⟨s.op ++ [md], s.rs, putA s.ex md []⟩ with
      | error c => rw [hx] at h; cases h
      | ok r =>
        obtain ⟨e, m2, s2⟩ := r
        rw [hx] at h
        have hm : md ∈ keysA (putA s.ex md ([] : Ints)) := putA_mem.mpr (.inl rfl)
        obtain ⟨g, w⟩ := exec_gr (init_good lr n) (vsP_or (lr.pv md)) _ _ (wf_begin wf) (fun k hk => by cases hk; exact hm) (fun k hk => by rw [List.mem_singleton.mp hk]; exact hm) hx
        cases h
        have eop : s2.op.dropLast = s.op := by
          rw [g.op]
          exact List.dropLast_concat
        have hmd : md ∈ keysA s2.ex := g.ex md hm
        have kx : ∀ k, k ∈ keysA (if b = true then s2.ex else putA s2.ex md []) ↔ k ∈ keysA s2.ex := fun k => by
          split
          · exact Iff.rfl
          · unfold keysA
            rw [putA_mem]
            exact ⟨fun z => z.elim (fun e => by rw [e]; exact hmd) id, .inr⟩
        have kx' := kx
        refine ⟨⟨eop, fun k hk => putA_mem.mpr (.inr (g.rs k hk)), fun k hk => (kx k).mpr (g.ex k (putA_mem.mpr (.inr hk)))⟩, ⟨fun k hk => (kx k).mpr ?_, fun k hk => (kx k).mpr ?_, putA_nodup w.nr, ?_, ?_⟩, putA_mem.mpr (.inl rfl), h1⟩
        · have hk : k ∈ s2.op.dropLast := hk
          rw [eop] at hk
          exact g.ex k (putA_mem.mpr (.inr (wf.op k hk)))
        · rcases putA_mem.mp hk with rfl | hk
          · exact hmd
          · exact w.rs k hk
        · show (keysA (if b = true then s2.ex else putA s2.ex md [])).Nodup
          split
          · exact w.nx
          · exact putA_nodup w.nx
        · show ∀ r ∈ (if b = true then s2.ex else putA s2.ex md []), _
          split
          · exact w.ni
          · intro r hr
            unfold putA at hr
            split at hr
            · obtain ⟨y, hy, rfl⟩ := List.mem_map.mp hr
              split
              · exact List.nodup_nil
              · exact w.ni y hy
            · rcases List.mem_append.mp hr with h | h
              · exact w.ni r h
              · rw [List.mem_singleton.mp h]
                exact List.nodup_nil
end Cr
/-! plain runs (pure): the names that occur, and how long the lists get -/
namespace Cr
open PySem PySem.Spec PyProof.Rows L2 Evl
def LabIn (labs : List Str) (us : List V) : Prop := ∀ a b, us = [.str "export", .str a, .str b] → a ∈ labs
/-- a program whose modules and labels are known -/
structure KnP (names labs : List Str) (vss : List (List V)) : Prop where
  po : ∀ us ∈ vss, PlainV us ∨ OtherV us
  mi : ∀ us ∈ vss, ModIn names us
  la : ∀ us ∈ vss, LabIn labs us
structure NmS (names labs : List Str) (s : Sc) : Prop where
  op : ∀ k ∈ s.op, k ∈ names
  on : s.op.Nodup
  rs : ∀ k ∈ keysA s.rs, k ∈ names
  ex : ∀ k ∈ keysA s.ex, k ∈ names
  lb : ∀ r ∈ s.ex, ∀ k ∈ keysA r.2, k ∈ labs
def GoodN (names labs : List Str) (ini : ScF) : Prop := ∀ s md b s', WfS s → NmS names labs s → md ∈ names → ini s md = .ok (b, s') → NmS names labs s'
theorem putA_in {α : Type} {l : List (Str × α)} {n : Str} {v : α} {r : Str × α} (h : r ∈ putA l n v) : r ∈ l ∨ r.2 = v ∧ r.1 = n := by
  unfold putA at h
  split at h
  · obtain ⟨y, hy, rfl⟩ := List.mem_map.mp h
    split
    · rename_i e
      exact .inr ⟨rfl, e⟩
    · exact .inl hy
  · rcases List.mem_append.mp h with h | h
    · exact .inl h
    · rw [List.mem_singleton.mp h]
      exact .inr ⟨rfl, rfl⟩
theorem exp_nm {names labs : List Str} {s : Sc} {me : Option Str} {l : Str} {i : Int} (nm : NmS names labs s) (hme : ∀ n, me = some n → n ∈ keysA s.ex) (hl : l ∈ labs) : NmS names labs (expS s me l i) := by
  cases me with
  | none => exact nm
  | some n =>
    have hn := hme n rfl
    refine ⟨nm.op, nm.on, nm.rs, fun k hk => ?_, fun r hr k hk => ?_⟩
    · rcases putA_mem.mp hk with rfl | h
      · exact nm.ex _ hn
      · exact nm.ex _ h
    · rcases putA_in hr with h | ⟨h, _⟩
      · exact nm.lb r h k hk
      · rw [h] at hk
        rcases putA_mem.mp hk with rfl | hk
        · exact hl
        · obtain ⟨e0, he0⟩ := getA_some hn
          rw [he0] at hk
          exact nm.lb _ (getA_mem he0) k hk
theorem need_in {names : List Str} {md : Str} (h : ModIn names [.str "need", .str md]) : md ∈ names := h md rfl
theorem try_in {names : List Str} {md x : Str} (h : ModIn names [.str "try", .str md, .str x]) : md ∈ names := h md rfl
theorem step_nm {names labs : List Str} {ini : ScF} (gn : GoodN names labs ini) {me : Option Str} {us : List V} (hus : PlainV us ∨ OtherV us) (hm : ModIn names us) (hl : LabIn labs us) {m m' : M4} {seen : List Str} {s s' : Sc} (wf : WfS s) (nm : NmS names labs s) (hme : ∀ n, me = some n → n ∈ keysA s.ex)
    (h : (∃ d seen', stepX ini me us m seen s = .go d m' seen' s') ∨ stepX ini me us m seen s = .halt m' s') : NmS names labs s' := by
  rcases hus with hp | ho
  · rw [stepX_plain hp] at h
    rcases h with ⟨d, seen', h⟩ | h
    · cases h; exact nm
    · cases h
  · cases ho with
    | exp =>
      rw [stepX_exp] at h
      rcases h with ⟨d, seen', h⟩ | h
      · cases h; exact exp_nm nm hme (hl _ _ rfl)
      · cases h
    | read _ =>
      rw [stepX_read] at h
      rcases h with ⟨d, seen', h⟩ | h
      · cases h; exact nm
      · cases h
    | @need md =>
      rw [stepX_need] at h
      cases hi : ini s md with
      | error c => rw [hi] at h; rcases h with ⟨d, seen', h⟩ | h <;> cases h
      | ok r =>
        obtain ⟨b, s2⟩ := r
        have g := gn s md b s2 wf nm (need_in hm) hi
        rw [hi] at h
        cases b with
        | false => rcases h with ⟨d, seen', h⟩ | h <;> cases h; exact g
        | true => rcases h with ⟨d, seen', h⟩ | h <;> cases h; exact g
    | @try_ md x _ =>
      rw [stepX_try] at h
      cases hi : ini s md with
      | error c => rw [hi] at h; rcases h with ⟨d, seen', h⟩ | h <;> cases h
      | ok r =>
        obtain ⟨b, s2⟩ := r
        have g := gn s md b s2 wf nm (try_in hm) hi
        rw [hi] at h
        cases b with
        | false => rcases h with ⟨d, seen', h⟩ | h <;> cases h; exact g
        | true => rcases h with ⟨d, seen', h⟩ | h <;> cases h; exact g
    | fail =>
      rw [stepX_fail] at h
      rcases h with ⟨d, seen', h⟩ | h
      · cases h
      · cases h; exact nm
theorem exec_nm {names labs : List Str} {ini : ScF} (gi : GoodI ini) (gn : GoodN names labs ini) {me : Option Str} {vss : List (List V)} (kn : KnP names labs vss) : ∀ (f pos : Nat) {m m' : M4} {seen : List Str} {s s' : Sc} {b : Bool}, WfS s → NmS names labs s → (∀ n, me = some n → n ∈ keysA s.ex) → (∀ k ∈ seen, k ∈ keysA s.ex) →
    execS ini me vss f pos m seen s = .ok (b, m', s') → NmS names labs s'
  | 0, _, _, _, _, s, s', _, _, nm, _, _, h => by
    cases h
    exact nm
  | f + 1, pos, m, m', seen, s, s', b, wf, nm, hme, hs, h => by
    rw [exec_succ] at h
    cases hp : vss[pos]? with
    | none =>
      rw [hp] at h
      cases h
      exact nm
    | some us =>
      rw [hp] at h
      dsimp only at h
      have hin := List.mem_of_getElem? hp
      cases hx : stepX ini me us m seen s with
      | go d m2 seen2 s2 =>
        rw [hx] at h
        obtain ⟨_, g, w, hs2⟩ := step_gr gi (kn.po us hin) wf hme hs hx
        exact exec_nm gi gn kn f (pos + d) w (step_nm gn (kn.po us hin) (kn.mi us hin) (kn.la us hin) wf nm hme (.inl ⟨d, seen2, hx⟩)) (fun n e => g.ex n (hme n e)) hs2 h
      | halt m2 s2 =>
        rw [hx] at h
        cases h
        exact step_nm gn (kn.po us hin) (kn.mi us hin) (kn.la us hin) wf nm hme (.inr hx)
      | cyc c => rw [hx] at h; cases h
/-- the programs of the library are known -/
structure LibN (names labs : List Str) (L : Lib) : Prop where
  r : LibR L
  kn : ∀ n, KnP names labs (vsP (progL L n))
theorem begin_nm {names labs : List Str} {s : Sc} {md : Str} (nm : NmS names labs s) (hm : md ∈ names) (hn : md ∉ s.op) : NmS names labs ⟨s.op ++ [md], s.rs, putA s.ex md []⟩ := by
  refine ⟨fun k hk => ?_, List.nodup_append.mpr ⟨nm.on, by simp, fun a ha b hb e => hn (by rw [List.mem_singleton] at hb; rw [← hb, ← e]; exact ha)⟩, nm.rs, fun k hk => ?_, fun r hr k hk => ?_⟩
  · rcases List.mem_append.mp hk with h | h
    · exact nm.op k h
    · rw [List.mem_singleton.mp h]; exact hm
  · rcases putA_mem.mp hk with rfl | h
    · exact hm
    · exact nm.ex k h
  · rcases putA_in hr with h | ⟨h, _⟩
    · exact nm.lb r h k hk
    · rw [h] at hk
      exact nomatch hk
theorem init_nm {names labs : List Str} {L : Lib} (ln : LibN names labs L) : ∀ n, GoodN names labs (initS L n)
  | 0 => fun s md b s' _ _ _ h => by cases h
  | n + 1 => fun s md b s' wf nm hm h => by
    rw [init_succ] at h
    by_cases h1 : md ∈ s.op
    · rw [if_pos h1] at h
      cases h
    rw [if_neg h1] at h
    cases h2 : getA s.rs md with
    | some c =>
      rw [h2] at h
      cases h
      exact nm
    | none =>
      rw [h2] at h
      dsimp only at h
      cases hx : execS (initS L n) (some md) (vsP (progL L md)) ((progL L md).length + 1) 0 .zero [md] ⟨s.op ++ [md], s.rs, putA s.ex md []⟩ with
      | error c => rw [hx] at h; cases h
      | ok r =>
        obtain ⟨e, m2, s2⟩ := r
        rw [hx] at h
        have hmk : md ∈ keysA (putA s.ex md ([] : Ints)) := putA_mem.mpr (.inl rfl)
        have hme : ∀ k, (some md : Option Str) = some k → k ∈ keysA (putA s.ex md ([] : Ints)) := fun k hk => by cases hk; exact hmk
        have hs : ∀ k ∈ [md], k ∈ keysA (putA s.ex md ([] : Ints)) := fun k hk => by rw [List.mem_singleton.mp hk]; exact hmk
        obtain ⟨g, w⟩ := exec_gr (init_good ln.r n) (ln.kn md).po _ _ (wf_begin wf) hme hs hx
        have n2 := exec_nm (init_good ln.r n) (init_nm ln n) (ln.kn md) _ _ (wf_begin wf) (begin_nm nm hm h1) hme hs hx
        cases h
        have eop : s2.op.dropLast = s.op := by
          rw [g.op]
          exact List.dropLast_concat
        refine ⟨fun k hk => nm.op k (by have hk : k ∈ s2.op.dropLast := hk; rw [eop] at hk; exact hk), by show s2.op.dropLast.Nodup; rw [eop]; exact nm.on, fun k hk => ?_, fun k hk => ?_, fun r hr k hk => ?_⟩
        · rcases putA_mem.mp hk with rfl | hk
          · exact hm
          · exact n2.rs k hk
        · have hk : k ∈ keysA (if b = true then s2.ex else putA s2.ex md []) := hk
          split at hk
          · exact n2.ex k hk
          · rcases putA_mem.mp hk with rfl | hk
            · exact hm
            · exact n2.ex k hk
        · have hr : r ∈ (if b = true then s2.ex else putA s2.ex md []) := hr
          split at hr
          · exact n2.lb r hr k hk
          · rcases putA_in hr with h | ⟨h, _⟩
            · exact n2.lb r h k hk
            · rw [h] at hk
              exact nomatch hk
theorem len_sub : ∀ {l m : List Str}, l.Nodup → (∀ k ∈ l, k ∈ m) → l.length ≤ m.length
  | [], _, _, _ => Nat.zero_le _
  | a :: l, m, hn, h => by
    obtain ⟨n1, n2⟩ := List.nodup_cons.mp hn
    have ha := h a List.mem_cons_self
    have z := len_sub (m := m.erase a) n2 fun k hk => (List.mem_erase_of_ne (fun e => n1 (by rw [← e]; exact hk))).mpr (h k (List.mem_cons_of_mem _ hk))
    rw [List.length_erase_of_mem ha] at z
    have : 0 < m.length := List.length_pos_of_mem ha
    rw [List.length_cons]
    omega
/-- nothing gets long -/
structure Few (s : Sc) : Prop where
  op : s.op.length ≤ 2000
  rs : s.rs.length ≤ 2000
  ex : s.ex.length ≤ 2000
  lb : ∀ r ∈ s.ex, r.2.length ≤ 2000
theorem few_of {names labs : List Str} {s : Sc} (wf : WfS s) (nm : NmS names labs s) (h1 : names.length ≤ 2000) (h2 : labs.length ≤ 2000) : Few s := by
  have e1 := len_sub nm.on nm.op
  have e2 := len_sub wf.nr nm.rs
  have e3 := len_sub wf.nx nm.ex
  unfold keysA at e2 e3
  rw [List.length_map] at e2 e3
  refine ⟨by omega, by omega, by omega, fun r hr => ?_⟩
  have e4 := len_sub (wf.ni r hr) (nm.lb r hr)
  unfold keysA at e4
  rw [List.length_map] at e4
  omega
end Cr
/-! except with two classes; a caught error handed to a def -/
/-! == and in, of data of any kind -/
namespace Cr
open PySem PySem.Spec PyProof.Rows L2 Evl
theorem units65 {k : Nat} {A : Around} (r : Room k A) : A.units + 65 < cLine := by have := r.un; omega
section
variable {X : Cx}
def rEqDt : R2 := fun x y H Q => ∃ d e, Dt H x d ∧ Dt H y e ∧ SeqAt.shaped d = true ∧ SeqAt.shaped e = true ∧ Q (.bl (PyData.eqv d e)) H
theorem op_eqDt (hu : X.A.units + 64 < cLine) : OpR X (compareOp .Eq) rEqDt := by
  intro pins s σ H x y v u Q I rx ry h
  obtain ⟨d, e, hd, he, sd, se, q⟩ := h
  obtain ⟨as, r1⟩ := (Dt.shown I hd rx).1
  obtain ⟨bs, r2⟩ := (Dt.shown I he ry).1
  exact SeqAt.compareEq_shaped r1 r2 sd se hu ⟨.bl _, H, I, rfl, q⟩
def rNotInDt : R2 := fun x y H Q => ∃ d ds, Dt H x d ∧ Dt H y (.tuple ds) ∧ SeqAt.shaped d = true ∧ SeqAt.shaped (.tuple ds) = true ∧ Q (.bl (!ds.any fun z => PyData.eqv z d)) H
theorem op_notInDt (hu : X.A.units + 65 < cLine) : OpR X (compareOp .NotIn) rNotInDt := by
  intro pins s σ H x y v u Q I rx ry h
  obtain ⟨d, ds, hd, he, sd, se, q⟩ := h
  obtain ⟨as, r1⟩ := (Dt.shown I hd rx).1
  obtain ⟨bs, r2⟩ := (Dt.shown I he ry).1
  exact SeqAt.notIn_tuple_reads r2 r1 (SeqAt.canLay_of_shaped se) (SeqAt.canLay_of_shaped sd) (room_in_shaped sd hu) ⟨.bl _, H, I, rfl, q⟩
end
end Cr
/-! Cr: == and != of an own class with its own ==, from both sides -/
/-! Cr: the comparison itself, own object at the left or at the right -/
/-! Cr: == and != as expressions, for a class with its own == -/
namespace Cr
open PySem PySem.Spec PyProof.Rows L2 Evl
/-- data at the other side -/
def OthB (H : Hp) : V → Prop
  | .non => True
  | .int _ => True
  | .str _ => True
  | .ref p => (∃ xs, H p = some (.lst xs)) ∨ (∃ xs, H p = some (.tup xs)) ∨ ∃ kvs, H p = some (.dK kvs)
  | _ => False
theorem OthB.ex {H H' : Hp} {y : V} (h : OthB H y) (e : Ex H H') : OthB H' y := by
  cases y with
  | ref p =>
    rcases h with ⟨xs, z⟩ | ⟨xs, z⟩ | ⟨xs, z⟩
    · exact .inl ⟨xs, e _ _ z⟩
    · exact .inr (.inl ⟨xs, e _ _ z⟩)
    · exact .inr (.inr ⟨xs, e _ _ z⟩)
  | _ => exact h
end Cr
/-! == and in, of data of any kind, dicts among them -/
/-! C(..) in a try: what __init__ raises wished for at the caller's slots -/
/-! expressions by the data that they give -/
namespace Cr
open PySem PySem.Spec PyProof.Rows L2 Evl
def EvD (te : TE) (σ : L2.St) (H : Hp) (d : PyData) : Prop := ∀ H1, Ex H H1 → ∀ Q : VK, (∀ v H2, Ex H1 H2 → Dt H2 v d → Q v H2) → te σ H1 Q
def EvDA (ta : TA) (σ : L2.St) (H : Hp) (ds : List PyData) : Prop := ∀ H1, Ex H H1 → ∀ Q : List V → Hp → Prop, (∀ vs H2, Ex H1 H2 → DtAll H2 vs ds → Q vs H2) → ta σ H1 Q
theorem dtAll_len {H : Hp} : ∀ {vs : List V} {ds : List PyData}, DtAll H vs ds → vs.length = ds.length
  | _, _, .nil => rfl
  | _, _, .cons _ b => by rw [List.length_cons, List.length_cons, dtAll_len b]
def rNeDt : R2 := fun x y H Q => ∃ d e, Dt H x d ∧ Dt H y e ∧ SeqAt.shaped d = true ∧ SeqAt.shaped e = true ∧ Q (.bl (!PyData.eqv d e)) H
theorem op_neDt {X : Cx} (hu : X.A.units + 64 < cLine) : OpR X (compareOp .NotEq) rNeDt := by
  intro pins s σ H x y v u Q I rx ry h
  obtain ⟨d, e, hd, he, sd, se, q⟩ := h
  obtain ⟨as, r1⟩ := (Dt.shown I hd rx).1
  obtain ⟨bs, r2⟩ := (Dt.shown I he ry).1
  exact SeqAt.compareNe_shaped r1 r2 sd se hu ⟨.bl _, H, I, rfl, q⟩
section
variable {te : TE} {ta : TA} {σ : L2.St} {H : Hp} {v : V} {d : PyData} {ds : List PyData}
theorem evd_of (h : Ev te σ H v) (hd : Dt H v d) : EvD te σ H d := fun H1 e Q q => h H1 e _ fun H2 e2 => q v H2 e2 (Dt.ex (e.trans e2) hd)
theorem evda_nil : EvDA tNil σ H [] := fun H1 e Q q => q [] H1 (Ex.refl H1) .nil
theorem evda_cons (h1 : EvD te σ H d) (h2 : EvDA ta σ H ds) : EvDA (tCons te ta) σ H (d :: ds) := fun H1 e Q q =>
  h1 H1 e _ fun v H2 e2 hv => h2 H2 (e.trans e2) _ fun vs H3 e3 hvs => q (v :: vs) H3 (e2.trans e3) (.cons (Dt.ex e3 hv) hvs)
theorem evd_lst (h : EvDA ta σ H ds) (hl : ds.length ≤ 1000) : EvD (tLst ta) σ H (.list ds) := fun H1 e Q q =>
  h H1 e _ fun vs H2 e2 hvs => ⟨Nat.le_trans (Nat.le_of_eq (dtAll_len hvs)) (Nat.le_trans hl (by decide)), fun l hl' => q (.ref l) _ (e2.trans (Ex.new hl')) (.lst upd_same (DtAll.ex (Ex.new hl') hvs))⟩
theorem evd_tup (h : EvDA ta σ H ds) (hl : ds.length ≤ 1000) : EvD (tTup ta) σ H (.tuple ds) := fun H1 e Q q =>
  h H1 e _ fun vs H2 e2 hvs => ⟨Nat.le_trans (Nat.le_of_eq (dtAll_len hvs)) (Nat.le_trans hl (by decide)), fun l hl' => q (.ref l) _ (e2.trans (Ex.new hl')) (.tup upd_same (DtAll.ex (Ex.new hl') hvs))⟩
theorem dt_lst {H : Hp} {v : V} (h : Dt H v (.list ds)) : ∃ a xs, v = .ref a ∧ H a = some (.lst xs) ∧ DtAll H xs ds := by
  cases h with
  | lst h1 h2 => exact ⟨_, _, rfl, h1, h2⟩
theorem dtAll_app {H : Hp} : ∀ {xs ys : List V} {ds es : List PyData}, DtAll H xs ds → DtAll H ys es → DtAll H (xs ++ ys) (ds ++ es)
  | _, _, _, _, .nil, h => h
  | _, _, _, _, .cons a b, h => .cons a (dtAll_app b h)
end
end Cr
/-! expressions by the data that they give, further -/
namespace Cr
open PySem PySem.Spec PyProof.Rows L2 Evl
theorem q_asgD {i : Nat} {te : TE} {tz : TS} {D : Ends} {σ : L2.St} {H : Hp} {d : PyData} (h : EvD te σ H d) (k : ∀ v H1, Ex H H1 → Dt H1 v d → tz D (σ.set i (some v)) H1) : tSeq (tAsg te (gName i)) tz D σ H := h H (Ex.refl H) _ k
theorem s_retD {te : TE} {D : Ends} {σ : L2.St} {H : Hp} {d : PyData} (h : EvD te σ H d) (k : ∀ v H1, Ex H H1 → Dt H1 v d → D.rt v H1) : tRet te D σ H := h H (Ex.refl H) _ k
theorem evd_var {i : Nat} {σ : L2.St} {H : Hp} {v : V} {d : PyData} (h : σ[i]? = some (some v)) (hd : Dt H v d) : EvD (tVar i) σ H d := evd_of (ev_var h) hd
section
variable {K : PySem.W.Frag} {te ta tb : TE} {tA : TA} {σ : L2.St} {H : Hp} {d e : PyData} {ds : List PyData} {i j : Nat} {E : XK}
theorem et_neD (h1 : EvD ta σ H d) (h2 : EvD tb σ H e) (s1 : SeqAt.shaped d = true) (s2 : SeqAt.shaped e = true) : EvT (tTest (tOp rNeDt ta tb)) σ H (!PyData.eqv d e) := fun H1 e1 Q q =>
  h1 H1 e1 _ fun v H2 e2 hv => h2 H2 (e1.trans e2) _ fun u H3 e3 hu => ⟨d, e, Dt.ex e3 hv, hu, s1, s2, _, rfl, q H3 (e2.trans e3)⟩
theorem ev_reprD (h : EvD te σ H d) (hf : Fits d) : Ev (tCB rRepr (tCons te tNil)) σ H (.str d.shown) := fun H1 e1 Q q => h H1 e1 _ fun v H2 e2 hv => ⟨v, d, rfl, hv, hf, q H2 e2⟩
end
/-! ### in a list of data -/
def rInLDt (neg : Bool) : R2 := fun x y H Q => ∃ d ds, Dt H x d ∧ Dt H y (.list ds) ∧ d.canLay0 = true ∧ PyData.canLayAll0 ds = true ∧ d.depth ≤ 5 ∧ Q (.bl (if neg = true then !ds.any fun z => PyData.eqv z d else ds.any fun z => PyData.eqv z d)) H
theorem op_notInLDt {X : Cx} (hu : X.A.units + 64 < cLine) : OpR X (compareOp .NotIn) (rInLDt true) := by
  intro pins s σ H x y v u Q I rx ry h
  obtain ⟨d, ds, hd, he, sd, se, dp, q⟩ := h
  obtain ⟨as, r1⟩ := (Dt.shown I hd rx).1
  obtain ⟨bs, r2⟩ := (Dt.shown I he ry).1
  exact SeqAt.notIn_list_reads r2 r1 se sd (by have := Nat.min_le_right (PyData.depthAll ds) d.depth; omega) ⟨.bl _, H, I, rfl, q⟩
theorem et_notInL {ta tb : TE} {σ : L2.St} {H : Hp} {d : PyData} {ds : List PyData} (h1 : EvD ta σ H d) (h2 : EvD tb σ H (.list ds)) (s1 : d.canLay0 = true) (s2 : PyData.canLayAll0 ds = true) (dp : d.depth ≤ 5) : EvT (tTest (tOp (rInLDt true) ta tb)) σ H (!ds.any fun z => PyData.eqv z d) := fun H1 e1 Q q =>
  h1 H1 e1 _ fun v H2 e2 hv => h2 H2 (e1.trans e2) _ fun u H3 e3 hu => ⟨d, ds, Dt.ex e3 hv, hu, s1, s2, dp, _, rfl, q H3 (e2.trans e3)⟩
/-! ### a list of pairs made in a comprehension -/
/-! ### a list that is new -/
def EvDF (te : TE) (σ : L2.St) (H : Hp) (d : PyData) : Prop := ∀ H1, Ex H H1 → ∀ Q : VK, (∀ p H2, H1 p = none → Ex H1 H2 → Dt H2 (.ref p) d → Q (.ref p) H2) → te σ H1 Q
theorem EvDF.d {te : TE} {σ : L2.St} {H : Hp} {d : PyData} (h : EvDF te σ H d) : EvD te σ H d := fun H1 e Q q => h H1 e Q fun p H2 _ e2 hd => q (.ref p) H2 e2 hd
theorem evdf_cat {σ : L2.St} {H : Hp} {t1 t2 : TE} {ds es : List PyData} (h1 : EvD t1 σ H (.list ds)) (h2 : EvD t2 σ H (.list es)) (hl : ds.length + es.length ≤ 100000) : EvDF (tOp rCat t1 t2) σ H (.list (ds ++ es)) := fun H1 e Q q =>
  h1 H1 e _ fun v H2 e2 hv => h2 H2 (e.trans e2) _ fun u H3 e3 hu => by
    obtain ⟨a, xs, rfl, ha, hx⟩ := dt_lst (Dt.ex e3 hv)
    obtain ⟨b, ys, rfl, hb, hy⟩ := dt_lst hu
    exact ⟨a, b, xs, ys, rfl, rfl, ha, hb, Nat.le_trans (by rw [dtAll_len hx, dtAll_len hy]; exact hl) (by decide), fun p hp => q p _ (fresh_back (e2.trans e3) hp) ((e2.trans e3).trans (Ex.new hp)) (.lst upd_same (DtAll.ex (Ex.new hp) (dtAll_app hx hy)))⟩
/-! ### a list filtered in a comprehension -/
/-! ### lists and tuples stay -/
def KeepLT (H H' : Hp) : Prop := (∀ b xs, H b = some (.lst xs) → H' b = some (.lst xs)) ∧ ∀ b xs, H b = some (.tup xs) → H' b = some (.tup xs)
mutual
def ndt : PyData → Bool
  | .list xs | .tuple xs => ndtAll xs
  | .dict _ => false
  | _ => true
def ndtAll : List PyData → Bool
  | [] => true
  | x :: xs => ndt x && ndtAll xs
end
mutual
theorem Dt.keepLT {H H' : Hp} (e : KeepLT H H') : ∀ {v : V} {d : PyData}, ndt d = true → Dt H v d → Dt H' v d
  | _, _, _, .non => .non
  | _, _, _, .bl b => .bl b
  | _, _, _, .int i => .int i
  | _, _, _, .str x => .str x
  | _, _, z, .lst h a => .lst (e.1 _ _ h) (DtAll.keepLT e (by rw [ndt] at z; exact z) a)
  | _, _, z, .tup h a => .tup (e.2 _ _ h) (DtAll.keepLT e (by rw [ndt] at z; exact z) a)
  | _, _, z, .dct h a => by rw [ndt] at z; cases z
theorem DtAll.keepLT {H H' : Hp} (e : KeepLT H H') : ∀ {vs : List V} {ds : List PyData}, ndtAll ds = true → DtAll H vs ds → DtAll H' vs ds
  | _, _, _, .nil => .nil
  | _, _, z, .cons a b => by
    rw [ndtAll, Bool.and_eq_true] at z
    exact .cons (Dt.keepLT e z.1 a) (DtAll.keepLT e z.2 b)
end
theorem keep_but {p dd : Addr} {H H' : Hp} {kvs : List (Key × V)} (e : ∀ a o, a ∉ [dd] → H a = some o → H' a = some o) (hd : H dd = some (.dK kvs)) : KeepLT (wo p H) (wo p H') := by
  refine ⟨fun b xs h => ?_, fun b xs h => ?_⟩
  · obtain ⟨n, h⟩ := wo_some h
    rw [wo_ne n]
    exact e b _ (fun z => by rw [List.mem_singleton.mp z, hd] at h; cases h) h
  · obtain ⟨n, h⟩ := wo_some h
    rw [wo_ne n]
    exact e b _ (fun z => by rw [List.mem_singleton.mp z, hd] at h; cases h) h
theorem dts_strs {H : Hp} : ∀ xs : List Str, DtAll H (xs.map V.str) (xs.map PyData.str)
  | [] => .nil
  | x :: r => .cons (.str x) (dts_strs r)
end Cr
/-! dicts whose keys are texts, numbers, bools, None, side by side -/
namespace Cr
open PySem PySem.Spec PyProof.Rows L2 Evl
def leafV : V → Option Leaf
  | .non => some .none
  | .int i => some (.num i)
  | .bl b => some (.num (if b then 1 else 0))
  | .str x => some (.text x)
  | _ => none
theorem leaf_is {P : Program} {w : World} {v : V} {u : Value} {k : Leaf} (h : leafV v = some k) (r : RelV v u) : (leafKind P w).is k u = true := by
  cases v with
  | non =>
    cases h
    cases (show u = Value.none from r)
    rfl
  | bl b =>
    cases h
    cases (show u = Value.bool b from r)
    cases b <;> rfl
  | int i =>
    cases h
    obtain ⟨t, rfl⟩ := r
    exact decide_eq_true rfl
  | str x =>
    cases h
    obtain ⟨t, rfl⟩ := r
    show (x == x) = true
    exact beq_self_eq_true x
  | _ => cases h
abbrev LKs := List (Leaf × V)
theorem lf_empty {P : Program} {w : World} {h : Heap} {a : Addr} (x : h.DictOf (mixKind P w) a []) : h.DictOf (leafKind P w) a [] := by
  obtain ⟨o, es, ep, ho, hx, hd, hk, hp, hn⟩ := x
  have e0 : es = #[] := by
    have : es.toList = [] := by
      cases hl : es.toList with
      | nil => rfl
      | cons a b => rw [hl] at hp; cases hp
    exact Array.ext' this
  subst e0
  exact ⟨o, #[], ep, ho, hx, hd, fun e he => absurd he (by simp), .nil, List.nodup_nil⟩
def LfAt (P : Program) (w : World) (a : Addr) (kvs : LKs) (h : Heap) : Prop := kvs.length ≤ sizeLine ∧ (a == sysModules) = false ∧ ∃ vs, KV kvs vs ∧ h.DictOf (leafKind P w) a vs
/-- such a dict -/
def LfO (P : Program) (w : World) (a : Addr) (kvs : LKs) : HO := .ext (LfAt P w a kvs)
theorem LfAt.mono {P : Program} {w : World} {a : Addr} {kvs : LKs} {h1 h2 : Heap} (h : LfAt P w a kvs h1) (e : ∀ o, h1.get? a = some o → h2.get? a = some o) : LfAt P w a kvs h2 := by
  obtain ⟨z, hd, vs, rel, dd⟩ := h
  exact ⟨z, hd, vs, rel, dd.at e⟩
theorem lf_new {P : Program} {w : World} {a : Addr} {kvs : LKs} {H : Hp} {h : Heap} (x : LfAt P w a kvs h) : ObjOk P w H h a (LfO P w a kvs) := by
  obtain ⟨z, hd, vs, rel, dd⟩ := x
  have he : ∃ q, h.get? a = some q := let ⟨q, _, _, hq, _⟩ := dd; ⟨q, hq⟩
  exact ⟨⟨z, hd, vs, rel, dd⟩, he, fun h1 h2 x e => x.mono e⟩
section
variable {X : Cx} {pins : List (Addr × Obj)} {σ : L2.St} {H : Hp} {s : Shared} {a : Addr} {kvs : LKs} {y v : V} {u r : Value} {k : Leaf} {A : Around} {E : Value → Shared → Prop}
theorem lf_of (I : Inv X pins σ H s) (e : H a = some (LfO X.prog X.w a kvs)) : LfAt X.prog X.w a kvs s.heap := (I.hok a _ e).1
theorem lf_in {Q : Value → Shared → Prop} (I : Inv X pins σ H s) (e : H a = some (LfO X.prog X.w a kvs)) (hk : leafV y = some k) (ry : RelV y u) (h : ∀ s', Inv X pins σ H s' → Q (.bool (valV kvs k).isSome) s') :
    wpAny (model X.prog X.w) A (compareOp .In u (.ref a)) Q E s := by
  obtain ⟨z, hd, vs, rel, dd⟩ := lf_of I e
  refine wpAny_in_of (leaf_is hk ry) hd dd.mapOf ?_
  rw [← (rel.val k).isSome_eq]
  exact h _ (I.tok _)
theorem lf_put {Q : Unit → Shared → Prop} (I : Inv X pins σ H s) (e : H a = some (LfO X.prog X.w a kvs)) (hl : kvs.length < sizeLine) (hk : leafV y = some k) (ry : RelV y u) (rv : RelV v r)
    (h : ∀ s', Inv X pins σ (upd H a (LfO X.prog X.w a (putK kvs k v))) s' → Q () s') : wpAny (model X.prog X.w) A (setItem (.ref a) u r) Q E s := by
  obtain ⟨z, hd, vs, rel, dd⟩ := lf_of I e
  have hz : vs.length ≤ sizeLine := by rw [← rel.length]; exact z
  have hl : (putK kvs k v).length ≤ sizeLine := by have := length_putK kvs k v; omega
  refine wpAny_setItem_pairs (hsz := hz) (leaf_is hk ry) dd fun h' dd' hs => h _ ?_
  have he : ∃ q, h'.get? a = some q := let ⟨q, _, _, hq, _⟩ := dd'; ⟨q, hq⟩
  exact d_write I (by rw [e]; exact True.intro) hs he (lf_new ⟨hl, hd, _, rel.put k rv, dd'⟩)
end
/-- y in d; d[y] = v; {y: v} -/
def tLIn (P : Program) (w : World) (ty td : TE) : TE := fun σ H Q => ty σ H fun y H1 => td σ H1 fun x H2 => ∃ a kvs k, x = .ref a ∧ H2 a = some (LfO P w a kvs) ∧ leafV y = some k ∧ Q (.bl (valV kvs k).isSome) H2
def sLPut (P : Program) (w : World) (td ty tv : TE) : TS := fun D σ H => tv σ H fun v H1 => td σ H1 fun x H2 => ty σ H2 fun y H3 => ∃ a kvs k, x = .ref a ∧ H3 a = some (LfO P w a kvs) ∧ kvs.length < sizeLine ∧ leafV y = some k ∧ D.nx σ (upd H3 a (LfO P w a (putK kvs k v)))
def tLDisp (P : Program) (w : World) (tk tv : TE) : TE := fun σ H Q => ∀ p, H p = none → tk σ (upd H p (.dK [])) fun y H1 => tv σ H1 fun v H2 => H2 p = some (.dK []) ∧ ∃ k, leafV y = some k ∧ Q (.ref p) (upd H2 p (LfO P w p [(k, v)]))
section
variable {X : Cx} {o i e value : Expr} {pos pos' tpos : Pos} {td ty tv : TE}
theorem pc_lin (hi : PE X i ty) (ho : PE X o td) : PC X .In i o (tLIn X.prog X.w ty td) := by
  refine ⟨fun pins s σ H Q I h => ?_⟩
  refine thn (hi.run pins s σ H _ I h) fun iv s1 ⟨y, H1, I1, ry, q1⟩ => thn (ho.run pins s1 σ H1 _ I1 q1) fun u s2 ⟨x, H2, I2, rx, a, kvs, k, ex, g, hk, q2⟩ => ?_
  subst ex
  obtain rfl : u = Value.ref a := rx
  exact lf_in I2 g hk ry fun s3 I3 => ⟨.bl (valV kvs k).isSome, H2, I3, rfl, q2⟩
theorem ps_lput (ho : PE X o td) (hi : PE X i ty) (hv : PE X value tv) (hs : swapsWith value (some (.Subscript o i pos')) pos.line X.env = pure false) :
    PS X (.Assign [.Subscript o i pos'] value pos) (sLPut X.prog X.w td ty tv) := by
  refine ⟨fun pins s σ H D I h => ?_⟩
  refine wpAny_Assign_Subscript (thn (hv.run pins s σ H _ I h) fun r s1 ⟨v, H1, I1, rv, q1⟩ => thn (ho.run pins s1 σ H1 _ I1 q1) fun u s2 ⟨x, H2, I2, rx, q2⟩ => thn (hi.run pins s2 σ H2 _ I2 q2) fun iv s3 ⟨y, H3, I3, ry, a, kvs, k, ex, g, hl, hk, q3⟩ => ?_) hs
  subst ex
  obtain rfl : u = Value.ref a := rx
  exact lf_put I3 g hl hk ry rv fun s4 I4 => ⟨σ, _, I4, q3⟩
theorem pe_ldisp {kx vx : Expr} {tk : TE} (hk : PE X kx tk) (hv : PE X vx tv) : PE X (.Dict [some kx] [vx] pos) (tLDisp X.prog X.w tk tv) := by
  have h := pps_cons (pos := pos) hk hv (pps_nil (X := X) (pos := pos))
  refine ⟨fun pins s σ H Q I q => ?_⟩
  have hn := I.hok.fresh (Nat.le_refl s.heap.objs.size)
  have I1 := I.laid (a := s.heap.objs.size) (o := .dK []) (h' := s.heap.push { cls := .type "dict", data := .dict #[] }) (t' := s.toks) (fun _ _ q => Heap.get?_push_of_some _ q) (Nat.le_refl _) (dk_empty s.heap I.big)
  refine wpAny_Dict_walk (knd := leafKind X.prog X.w) (by rfl) (by rfl) (by simp) (by show 1 ≤ 15; decide) (thn (h.run pins _ σ _ (fun ps H2 => match ps with
    | [(y, v)] => H2 s.heap.objs.size = some (.dK []) ∧ ∃ k, leafV y = some k ∧ Q (.ref s.heap.objs.size) (upd H2 s.heap.objs.size (LfO X.prog X.w s.heap.objs.size [(k, v)]))
    | _ => False) I1 (q _ hn)) fun ws s2 ⟨ps, H2, I2, rel, hh⟩ => ?_)
  match ps, hh with
  | [(y, v)], hh =>
  obtain ⟨e, k, hk, q2⟩ := hh
  cases rel with
  | @cons a b as bs h t =>
    cases t
    obtain ⟨b1, b2⟩ := b
    obtain ⟨z, hd, vs0, r0, dd⟩ := dk_of I2.hok e
    cases r0
    refine ⟨[(k, b2)], ⟨leaf_is hk h.1, rfl, True.intro⟩, lf_empty dd, fun h' dd' hs => ⟨.ref s.heap.objs.size, _, ?_, rfl, q2⟩⟩
    have he : ∃ q, h'.get? s.heap.objs.size = some q := let ⟨q, _, _, hq, _⟩ := dd'; ⟨q, hq⟩
    exact d_write I2 (by rw [e]; exact True.intro) hs he (lf_new ⟨by show 1 ≤ sizeLine; decide, hd, _, .cons ⟨rfl, h.2⟩ .nil, dd'⟩)
end
end Cr
/-! a dict made turn by turn over any walk -/
namespace Cr
open PySem PySem.Spec PyProof.Rows L2 Evl
theorem dc_it {J : It} {n : Nat} {G : Hp → Prop} {Y : Nat → Hp → V → Hp → Prop} (w : Walk J n G Y) {g : TG} {tt : TT} {tk tv : TE} {vs : List Nat} {σ : L2.St} {D : Addr} {Q : Hp → Prop} {H0 : Hp} (Pv : Nat → Hp → Prop) (z0 : Pv 0 H0) (keep : ∀ i H, i ≤ n → Pv i H → G H)
    (turn : ∀ i x H H', i < n → Pv i H → Y i H x H' → g x (wipe σ vs) H' fun σ2 H2 => wipe σ2 vs = wipe σ vs ∧ tt σ2 H2 fun b H3 => if b = true then tk σ2 H3 fun y H4 => tv σ2 H4 fun z H5 => ∃ kvs k, y = kV k ∧ H5 D = some (.dK kvs) ∧ kvs.length < sizeLine ∧ Pv (i + 1) (upd H5 D (.dK (putK kvs k z))) else Pv (i + 1) H3)
    (fin : ∀ H, Pv n H → Q H) : ∃ W : Nat → Nat → Hp → Prop, (∃ m, W 0 m H0) ∧ ∀ i m H, W i m H → (J.stop i H ∧ Q H) ∨ (J.go i H ∧ ∃ Nx : Hp → Prop, (∀ H', Nx H' → ∃ m', m' < m ∧ W (i + 1) m' H') ∧ ∀ x H', J.yld i H x H' → g x (wipe σ vs) H' fun σ2 H2 => wipe σ2 vs = wipe σ vs ∧ tt σ2 H2 fun b H3 =>
      if b = true then tk σ2 H3 fun y H4 => tv σ2 H4 fun z H5 => ∃ kvs k, y = kV k ∧ H5 D = some (.dK kvs) ∧ kvs.length < sizeLine ∧ Nx (upd H5 D (.dK (putK kvs k z))) else Nx H3) := by
  refine ⟨fun i m H => i + m = n ∧ Pv i H, ⟨n, by omega, z0⟩, ?_⟩
  rintro i m H ⟨e, p⟩
  cases m with
  | zero =>
    have ei : i = n := by omega
    subst ei
    exact .inl ⟨w.stops H (keep i H (Nat.le_refl _) p), fin H p⟩
  | succ m =>
    have lt : i < n := by omega
    have gi := keep i H (by omega) p
    exact .inr ⟨w.goes i H lt gi, Pv (i + 1), fun H' p' => ⟨m, by omega, by omega, p'⟩, fun x H' y => turn i x H H' lt p (w.yields i H x H' lt gi y)⟩
end Cr
/-! libraries made of valid dicts -/
namespace Cr
open PySem PySem.Spec PyProof.Rows L2 Evl
abbrev sLPair : Stmt := topS 45
abbrev sLPairs : Stmt := topS 46
abbrev sLInit : Stmt := inClass (topS 47) 0
abbrev nLPair : List Str := ["key", "value", "names", "error"]
abbrev nLPairs : List Str := ["pairs", "names", "key", "value"]
abbrev nLInit : List Str := ["self", "modules", "name"]
theorem scLPair : FnScope nLPair ["key", "value", "names"] (defScope sLPair) := ⟨rfl, rfl, rfl, by decide +kernel, rfl, by decide +kernel, by decide +kernel⟩
theorem scLPairs : FnScope nLPairs ["pairs"] (defScope sLPairs) := ⟨rfl, rfl, rfl, by decide +kernel, rfl, by decide +kernel, by decide +kernel⟩
theorem scLInit : FnScope nLInit ["self", "modules"] (defScope sLInit) := ⟨rfl, rfl, rfl, by decide +kernel, rfl, by decide +kernel, by decide +kernel⟩
structure LbC (K : PySem.W.Frag) (mg : Str → Option Value) (C : Addr) : Prop where
  cl : Cls K C
  nI : NoAttr K C "initializers"
  at_ : mg "Library" = some (.ref C)
/-- the rows of a dict of programs -/
abbrev LKv (H : Hp) (kvs : List (Key × V)) (L : Lib) : Prop := DtKv H kvs (L.map fun r => (PyData.str r.1, progD r.2))
structure LbAt (C : Addr) (H : Hp) (x : Addr) (L : Lib) : Prop where
  ob : ∃ dx dd kvs, H x = some (.ins C dx [("initializers", .ref dd)]) ∧ H dd = some (.dK kvs) ∧ LKv H kvs L
theorem LbAt.ex {C x : Addr} {H H' : Hp} {L : Lib} (h : LbAt C H x L) (e : Ex H H') : LbAt C H' x L := by
  obtain ⟨dx, dd, kvs, h1, h2, h3⟩ := h.ob
  exact ⟨dx, dd, kvs, e _ _ h1, e _ _ h2, DtKv.ex e h3⟩
/-- a library made anew: none of its parts was known -/
structure LbNw (C : Addr) (H H' : Hp) (x : Addr) (L : Lib) : Prop where
  ob : ∃ dx dd kvs, H' x = some (.ins C dx [("initializers", .ref dd)]) ∧ H' dd = some (.dK kvs) ∧ LKv H' kvs L ∧ H dd = none ∧ ∀ e ∈ kvs, ∃ al, e.2 = .ref al ∧ H al = none
theorem LbNw.at_ {C x : Addr} {H H' : Hp} {L : Lib} (h : LbNw C H H' x L) : LbAt C H' x L := by
  obtain ⟨dx, dd, kvs, h1, h2, h3, _⟩ := h.ob
  exact ⟨dx, dd, kvs, h1, h2, h3⟩
theorem LbNw.ex {C x : Addr} {H H' H2 : Hp} {L : Lib} (h : LbNw C H H' x L) (e : Ex H' H2) : LbNw C H H2 x L := by
  obtain ⟨dx, dd, kvs, h1, h2, h3, h4⟩ := h.ob
  exact ⟨dx, dd, kvs, e _ _ h1, e _ _ h2, DtKv.ex e h3, h4⟩
theorem LbNw.back {C x : Addr} {H0 H H' : Hp} {L : Lib} (h : LbNw C H H' x L) (e : Ex H0 H) : LbNw C H0 H' x L := by
  obtain ⟨dx, dd, kvs, h1, h2, h3, h4, h5⟩ := h.ob
  exact ⟨dx, dd, kvs, h1, h2, h3, fresh_back e h4, fun y hy => by
    obtain ⟨al, e1, e2⟩ := h5 y hy
    exact ⟨al, e1, fresh_back e e2⟩⟩
theorem dtKv_inv {H : Hp} {kvs : List (Key × V)} {e : PyData × PyData} {es : List (PyData × PyData)} (h : DtKv H kvs (e :: es)) : ∃ k v kvs', kvs = (k, v) :: kvs' ∧ e.1 = kD k ∧ Dt H v e.2 ∧ DtKv H kvs' es := by
  cases h with
  | cons a b => exact ⟨_, _, _, rfl, rfl, a, b⟩
theorem kD_str {k : Key} {x : Str} (h : PyData.str x = kD k) : k = .inr x := by
  cases k with
  | inl i => exact nomatch h
  | inr y =>
    have h : PyData.str x = .str y := h
    cases h
    rfl
theorem lkv_inv {H : Hp} {kvs : List (Key × V)} {r : Str × Prog} {L : Lib} (h : LKv H kvs (r :: L)) : ∃ v kvs', kvs = (Sum.inr r.1, v) :: kvs' ∧ Dt H v (progD r.2) ∧ LKv H kvs' L := by
  obtain ⟨k, v, kvs', e1, e2, e3, e4⟩ := dtKv_inv h
  have e2 := kD_str e2
  subst e2
  exact ⟨v, kvs', e1, e3, e4⟩
theorem lkv_nil {H : Hp} {kvs : List (Key × V)} (h : LKv H kvs []) : kvs = [] := by
  have h : DtKv H kvs [] := h
  cases h
  rfl
theorem lkv_keys {H : Hp} : ∀ {L : Lib} {kvs : List (Key × V)}, LKv H kvs L → kvs.map (·.1) = L.map fun r => Sum.inr r.1
  | [], kvs, h => by rw [lkv_nil h]; rfl
  | r :: L, kvs, h => by
    obtain ⟨v, kvs', rfl, _, h⟩ := lkv_inv h
    rw [List.map_cons, List.map_cons, lkv_keys h]
theorem lkv_get {H : Hp} : ∀ {L : Lib} {kvs : List (Key × V)} {i : Nat} {r : Str × Prog}, LKv H kvs L → L[i]? = some r → ∃ v, kvs[i]? = some (Sum.inr r.1, v) ∧ Dt H v (progD r.2)
  | [], _, _, _, _, h => by simp at h
  | r :: L, kvs, 0, _, h, e => by
    obtain ⟨v, kvs', rfl, hv, _⟩ := lkv_inv h
    cases e
    exact ⟨v, rfl, hv⟩
  | r :: L, kvs, i + 1, r', h, e => by
    obtain ⟨v, kvs', rfl, _, h⟩ := lkv_inv h
    obtain ⟨u, a, b⟩ := lkv_get (i := i) h (show L[i]? = some r' from e)
    exact ⟨u, a, b⟩
theorem lkv_len {H : Hp} {L : Lib} {kvs : List (Key × V)} (h : LKv H kvs L) : kvs.length = L.length := by
  have z := congrArg List.length (lkv_keys h)
  rw [List.length_map, List.length_map] at z
  exact z
theorem lkv_val {H : Hp} (n : Str) : ∀ {L : Lib} {kvs : List (Key × V)}, LKv H kvs L → (rowL L n = none ∧ valV kvs (.inr n) = none) ∨ ∃ r v, rowL L n = some r ∧ valV kvs (.inr n) = some v ∧ Dt H v (progD r.2)
  | [], kvs, h => by rw [lkv_nil h]; exact .inl ⟨rfl, rfl⟩
  | r :: L, kvs, h => by
    obtain ⟨v, kvs', rfl, hv, h⟩ := lkv_inv h
    have ih := lkv_val n h
    unfold rowL valV at ih ⊢
    rw [List.find?_cons, List.find?_cons]
    by_cases e : r.1 = n
    · rw [decide_eq_true e]
      refine .inr ⟨r, v, rfl, ?_, hv⟩
      rw [show decide ((Sum.inr r.1 : Key) = Sum.inr n) = true from decide_eq_true (by rw [e])]
      rfl
    · rw [decide_eq_false e, show decide ((Sum.inr r.1 : Key) = Sum.inr n) = false from decide_eq_false fun z => e (Sum.inr.inj z)]
      exact ih
theorem lkv_snoc {H : Hp} {n : Str} {v : V} {p : Prog} (hv : Dt H v (progD p)) : ∀ {L : Lib} {kvs : List (Key × V)}, LKv H kvs L → LKv H (kvs ++ [(Sum.inr n, v)]) (L ++ [(n, p)])
  | [], kvs, h => by
    rw [lkv_nil h]
    exact .cons (k := Sum.inr n) hv .nil
  | r :: L, kvs, h => by
    obtain ⟨u, kvs', rfl, hu, h⟩ := lkv_inv h
    exact .cons (k := Sum.inr r.1) hu (lkv_snoc hv h)
/-- a pair of a valid library -/
def spLPair : Sp := fun vs H Q _ => ∃ (n : Str) (v : V) (p : Prog) (b : Addr) (ns : List Str), vs = [.str n, v, .ref b] ∧ isNameS n = true ∧ Dt H v (progD p) ∧ ProgV p ∧ H b = some (.lst (ns.map V.str)) ∧ (∀ ds ∈ p, okMod ns ds = true) ∧ ∀ H', Ex H H' → Q .non H'
def PairsAt (H : Hp) (ts : List Addr) (kvs : List (Key × V)) : Prop := Paired (fun (t : Addr) (q : Key × V) => H t = some (.tup [kV q.1, q.2])) ts kvs
def spLPairs : Sp := fun vs H Q _ => ∃ (a : Addr) (ts : List Addr) (kvs : List (Key × V)) (L : Lib), vs = [.ref a] ∧ H a = some (.lst (ts.map V.ref)) ∧ PairsAt H ts kvs ∧ LKv H kvs L ∧ LibOk L ∧ ∀ H', Ex H H' → Q .non H'
def spLInit (C : Addr) : Sp := fun vs H Q _ => ∃ x dx m dm kvs L, vs = [.ref x, m] ∧ H x = some (.ins C dx []) ∧ m = .ref dm ∧ H dm = some (.dK kvs) ∧ LKv H kvs L ∧ LibOk L ∧ ∀ H', LbNw C H H' x (srtL L) → (∀ b o, b ≠ x → H b = some o → H' b = some o) → Q .non H'
theorem pairs_get {H : Hp} : ∀ {ts : List Addr} {kvs : List (Key × V)} {i : Nat} {q : Key × V}, PairsAt H ts kvs → kvs[i]? = some q → ∃ t, ts[i]? = some t ∧ H t = some (.tup [kV q.1, q.2])
  | _, _, _, _, .nil, h => by simp at h
  | _, _, 0, _, .cons a b, h => by cases h; exact ⟨_, rfl, a⟩
  | _, _, i + 1, q, .cons a b, h => by
    obtain ⟨t, h1, h2⟩ := pairs_get (i := i) (q := q) (show PairsAt H _ _ from b) h
    exact ⟨t, h1, h2⟩
theorem PairsAt.ex {H H' : Hp} (e : Ex H H') : ∀ {ts : List Addr} {kvs : List (Key × V)}, PairsAt H ts kvs → PairsAt H' ts kvs
  | _, _, .nil => .nil
  | _, _, .cons a b => .cons (e _ _ a) (PairsAt.ex e b)
section
variable {P : Program} {w : World} {K : PySem.W.Frag} {mg : Str → Option Value} {base : Heap}
theorem ok_lpair {f CP : Addr} {fd : FuncData} {k : Nat} (F : Fun K "check_pair" "check_pair" sLPair f fd) (h1 : HasO P w K mg base k "is_name" ["value"] (spD isName)) (h2 : HasE P w K mg base k "check_steps" ["value", "is_main", "modules"] (spSteps CP)) : FnOk P w K mg base CX0 (k + 1) f fd ["key", "value", "names"] spLPair := by
  obtain ⟨f1, d1, G1, b1, k1, g1⟩ := h1.ex
  obtain ⟨f2, d2, G2, b2, k2, g2⟩ := h2.ex
  refine F.ok scLPair (fun vs H Q E h => by obtain ⟨_, _, _, _, _, rfl, _⟩ := h; rfl) (fun cdv A outer s H vs Q E hr h => ?_)
  obtain ⟨n, v, p, b, ns, rfl, hn, hv, hpv, hb, hm, q⟩ := h
  refine ⟨_, pss_cons (ps_if (pt_not (pt_val (pe_call (E := E0) G1 hr (by rfl) g1 k1 b1 .nil pass0 (pa_cons (pv 0) pa_nil)))) pss_dead' pss_nil)
    (pss_one (ps_try_thru0 (pss_one (ps_expr (pe_call (E := E0) G2 hr (by rfl) g2 k2 b2 .nil passL (pa_cons (pv 1) (pa_cons pe_bl (pa_cons (pv 2) pa_nil)))))))), ?_⟩
  have nm : isName (.str n) = true := hn
  refine q_when (b := false) (et_is (et_not (et_B (ev_call (ea_cons (ev_var rfl) ea_nil) (spv_D (.str n) (nm_sm hn))))) (by rw [nm]; rfl)) (fun z => nomatch z) (fun _ H1 e1 => ?_)
  refine ⟨v, rfl, .ref b, rfl, v, progD p, false, .ref b, some (ns.map V.str), rfl, Dt.ex e1 hv, prog_sm hpv, ⟨b, rfl, e1 _ _ hb, flat_strs ns⟩, fun _ H2 e2 => q H2 (e1.trans e2), fun i hi => ?_⟩
  rw [due_prog hpv hm] at hi
  cases hi
theorem ok_lpairs {f : Addr} {fd : FuncData} {k : Nat} (F : Fun K "check_pairs" "check_pairs" sLPairs f fd) (B : Blt mg) {tM : Tok} (gM : mg "MOST_MODULES" = some (.int 40 tM)) (h1 : HasO P w K mg base k "is_name" ["value"] (spD isName)) (h2 : HasO P w K mg base k "check_pair" ["key", "value", "names"] spLPair) : FnOk P w K mg base CX0 (k + 1) f fd ["pairs"] spLPairs := by
  obtain ⟨f1, d1, G1, b1, k1, g1⟩ := h1.ex
  obtain ⟨f2, d2, G2, b2, k2, g2⟩ := h2.ex
  refine F.ok scLPairs (fun vs H Q E h => by obtain ⟨_, _, _, _, rfl, _⟩ := h; rfl) (fun cdv A outer s H vs Q E hr h => ?_)
  obtain ⟨a, ts, kvs, L, rfl, ha, hts, hL, ok, q⟩ := h
  refine ⟨_, pss_cons (ps_if (pt_not (pt_chain op_le op_le pe_int (pe_callB call_len_seq (by rfl) B.len bLen (pa_cons (pv 0) pa_nil)) (pe_glob (v := .int 40) (by rfl) gM ⟨_, rfl⟩))) pss_dead' pss_nil)
    (pss_cons (ps_setLc (i := 1) (own := [("key", 2), ("value", 3)]) (g := gTup K 2 (gCons (gName 2) (gCons (gName 3) gNil))) (tt := tB (tCall (spD isName) [] E0 (tCons (tVar 2) tNil))) (te := tVar 2) rfl scLPairs.nd rfl rfl (sw_true rfl rfl rfl (by decide +kernel)) (pi_list (pv 0)) (blkOk_by (own := [("key", 2), ("value", 3)]) (N := nLPairs) (sc := defScope sLPairs) (by decide +kernel))
        (fun _ _ _ _ _ => by exact pg_tup rfl (pgs_cons (pg_name (i := 2) scLPairs.nd rfl (Or.inl rfl)) (pgs_cons (pg_name (i := 3) scLPairs.nd rfl (Or.inl rfl)) pgs_nil))) (fun _ _ _ _ _ => by exact pts_one (pt_val (pe_call (E := E0) G1 hr (by rfl) g1 k1 b1 .nil pass0 (pa_cons (pv 2) pa_nil))))
        (fun _ _ _ _ _ => pv 2))
    (pss_one (ps_for PassesOwn.never rfl (pi_list (pv 0)) (pg_tup rfl (pgs_cons (pg_name (i := 2) scLPairs.nd rfl (.inl rfl)) (pgs_cons (pg_name (i := 3) scLPairs.nd rfl (.inl rfl)) pgs_nil)))
      (pss_one (ps_expr (pe_call (E := E0) G2 hr (by rfl) g2 k2 b2 .nil pass0 (pa_cons (pv 2) (pa_cons (pv 3) (pa_cons (pv 1) pa_nil))))))))), ?_⟩
  have lk := lkv_len hL
  have lt : ts.length = kvs.length := Paired.length hts
  have l1 := ok.v.l1
  have l40 := ok.v.l40
  have lx : (ts.map V.ref).length = L.length := by rw [List.length_map, lt, lk]
  refine q_when (b := false) (et_is (et_not (et_test (ev_chain ev_c (ev_cb (ea_cons (ev_var rfl) ea_nil) (rc_lenL (sq_of ha))) rv_I0 (fun _ => ev_c) fun _ => rv_I0))) (by rw [lx, decide_eq_true (show (1 : Int) ≤ (L.length : Int) by omega), decide_eq_true (show (L.length : Int) ≤ 40 by omega)]; rfl)) (fun z => nomatch z) (fun _ H1 e1 => ?_)
  have row : ∀ {i : Nat} (hi : i < L.length), ∃ t v, (ts.map V.ref)[i]? = some (.ref t) ∧ H t = some (.tup [.str L[i].1, v]) ∧ Dt H v (progD L[i].2) := fun {i} hi => by
    obtain ⟨v, h1, h2⟩ := lkv_get hL (List.getElem?_eq_getElem hi)
    obtain ⟨t, h3, h4⟩ := pairs_get hts h1
    exact ⟨t, v, by rw [List.getElem?_map, h3]; rfl, h4, h2⟩
  have lc := el_lcW (wi := iList K (tVar 0)) (g := gTup K 2 (gCons (gName 2) (gCons (gName 3) gNil))) (tt := tB (tCall (spD isName) [] E0 (tCons (tVar 2) tNil))) (te := tVar 2) (vs := [2, 3])
    (σ := [some (.ref a), none, none, none]) (H := H1) (n := (ts.map V.ref).length) (Y := YAt (ts.map V.ref)) (fun _ => true) (fun i => .str ((L.map (·.1)).getD i ("" : Str))) (by omega)
    (fun H2 e2 R r => ⟨.ref a, rfl, a, rfl, ⟨_, sq_of ((e1.trans e2) _ _ ha)⟩, r H2 _ _ (walk_list (K := K) (a := a) (xs := ts.map V.ref)) (fun _ _ e z => ex_l e z) (Ex.refl H2) (sq_of ((e1.trans e2) _ _ ha))⟩)
    (fun i y H2 H3 e2 hi hy => by
      obtain ⟨rfl, hy⟩ := hy
      have hi : i < L.length := by omega
      obtain ⟨t, v, h1, h2, h3⟩ := row hi
      rw [h1] at hy
      cases hy
      have nm := ok.v.nm _ (List.getElem_mem hi)
      have nm' : isName (.str L[i].1) = true := nm
      refine ⟨Ex.refl _, [some (.ref a), none, some (.str L[i].1), some v], rfl, fun R r => pair_go ((e1.trans e2) _ _ h2) r, et_is (et_B (ev_call (ea_cons (ev_var rfl) ea_nil) (spv_D (.str L[i].1) (nm_sm nm)))) nm', fun _ => ?_⟩
      have e : (L.map (·.1)).getD i ("" : Str) = L[i].1 := by rw [getD_at _ (by rw [List.length_map]; exact hi), List.getElem_map]
      rw [e]
      exact ev_var rfl)
  have eg : given (ts.map V.ref).length (fun _ => true) (fun i => V.str ((L.map (·.1)).getD i ("" : Str))) = (L.map (·.1)).map V.str := by
    rw [given_all, lx]
    refine List.ext_getElem? fun i => ?_
    by_cases hi : i < L.length
    · rw [List.getElem?_map, List.getElem?_range hi, List.getElem?_map, List.getElem?_eq_getElem (show i < (L.map (·.1)).length by rw [List.length_map]; exact hi)]
      show some (V.str _) = some (V.str _)
      rw [getD_at _ (show i < (L.map (·.1)).length by rw [List.length_map]; exact hi)]
    · rw [List.getElem?_eq_none (by rw [List.length_map, List.length_range]; omega), List.getElem?_eq_none (by rw [List.length_map, List.length_map]; omega)]
  rw [eg] at lc
  refine q_asgL lc fun N H2 zN e2 hN => ?_
  have e12 := e1.trans e2
  refine ⟨.ref a, rfl, a, rfl, ⟨_, sq_of (e12 _ _ ha)⟩, for_list (fun i σ H' => (∃ y2 y3, σ = [some (.ref a), some (.ref N), y2, y3]) ∧ Ex H2 H') ⟨⟨_, _, rfl⟩, Ex.refl H2⟩ (fun i σ H' _ h => sq_of (h.2 _ _ (e12 _ _ ha))) (fun i x σ H' hi hP => ?_) (fun σ H' hP => ?_)⟩
  · obtain ⟨⟨y2, y3, rfl⟩, e3⟩ := hP
    have hil : i < L.length := by
      have := (List.getElem?_eq_some_iff.mp hi).1
      omega
    obtain ⟨t, v, h1, h2, h3⟩ := row hil
    rw [h1] at hi
    cases hi
    have e123 := e12.trans e3
    refine pair_go (e123 _ _ h2) ?_
    exact ⟨.str L[i].1, rfl, v, rfl, .ref N, rfl, L[i].1, v, L[i].2, N, L.map (·.1), rfl, ok.v.nm _ (List.getElem_mem hil), Dt.ex e123 h3, ok.v.ok _ (List.getElem_mem hil), e3 _ _ hN, ok.mi _ (List.getElem_mem hil), fun H4 e4 => ⟨⟨_, _, rfl⟩, e3.trans e4⟩⟩
  · obtain ⟨⟨y2, y3, rfl⟩, e3⟩ := hP
    exact q H' (e12.trans e3)
end
end Cr
/-! decimal words, texts of whole numbers, words of a text -/
/-! a, *b = a list -/
/-! get of a written dict with a default; texts' methods as expressions -/
/-! a text times a number -/
/-! general: texts of plain signs, parts of lists and texts, walks -/
namespace Cr
open PySem PySem.Spec PyProof.Rows L2 Evl
/-- a text of plain signs -/
def okT (x : Str) : Prop := ∀ c ∈ x.cps.toList, c < 128
theorem given_flt {α : Type} (l : List α) (d : α) (f : α → Bool) (v : α → V) : given l.length (fun i => f (l.getD i d)) (fun i => v (l.getD i d)) = (l.filter f).map v := by
  have e : (List.range l.length).map (fun i => l.getD i d) = l := by
    refine List.ext_getElem? fun i => ?_
    rw [List.getElem?_map]
    by_cases hi : i < l.length
    · rw [List.getElem?_range hi, List.getElem?_eq_getElem hi]
      show some (l.getD i d) = _
      rw [List.getD_eq_getElem?_getD, List.getElem?_eq_getElem hi]
      rfl
    · rw [List.getElem?_eq_none (by rw [List.length_range]; omega), List.getElem?_eq_none (by omega)]
      rfl
  have z : (((List.range l.length).map fun i => l.getD i d).filter f).map v = (l.filter f).map v := by rw [e]
  rw [List.filter_map, List.map_map] at z
  exact z
theorem putK_new {kvs : List (Key × V)} {k : Key} {v : V} (h : k ∉ kvs.map (·.1)) : putK kvs k v = kvs ++ [(k, v)] := by
  unfold putK
  rw [if_neg]
  intro z
  obtain ⟨kv, h1, h2⟩ := List.any_eq_true.mp z
  exact h (List.mem_map.mpr ⟨kv, h1, of_decide_eq_true h2⟩)
theorem mergeK_new : ∀ {more kvs : List (Key × V)}, (more.map (·.1)).Nodup → (∀ k ∈ more.map (·.1), k ∉ kvs.map (·.1)) → mergeK kvs more = kvs ++ more
  | [], kvs, _, _ => (List.append_nil _).symm
  | p :: r, kvs, nd, h => by
    rw [List.map_cons, List.nodup_cons] at nd
    show mergeK (putK kvs p.1 p.2) r = _
    rw [putK_new (h p.1 (by rw [List.map_cons]; exact List.mem_cons_self)), mergeK_new nd.2, List.append_assoc]
    · rfl
    · intro k hk hm
      rw [List.map_append, List.mem_append] at hm
      rcases hm with hm | hm
      · exact h k (by rw [List.map_cons]; exact List.mem_cons_of_mem _ hk) hm
      · have e : k = p.1 := by simpa using hm
        exact nd.1 (e ▸ hk)
theorem name_okT {x : Str} (h : isNameS x = true) : okT x ∧ x.length ≤ 32 := by
  unfold isNameS at h
  simp only [Bool.and_eq_true, decide_eq_true_eq] at h
  refine ⟨fun c hc => ?_, by omega⟩
  have y := List.all_eq_true.mp h.2 c hc
  unfold isLow at y
  simp only [Bool.and_eq_true, decide_eq_true_eq] at y
  omega
end Cr
/-! a library's making -/
namespace Cr
open PySem PySem.Spec PyProof.Rows L2 Evl
theorem bSrt : bootBuiltins "sorted" = some (.builtin "sorted") := by decide +kernel
theorem ndt_wordy : ∀ {ds : List PyData}, (∀ d ∈ ds, wordy d = true) → ndtAll ds = true
  | [], _ => rfl
  | d :: ds, h => by
    have w := h d List.mem_cons_self
    rw [ndtAll, ndt_wordy fun e he => h e (List.mem_cons_of_mem _ he)]
    cases d with
    | str x => rfl
    | int i => rfl
    | _ => exact nomatch w
theorem ndt_prog {p : Prog} (h : ∀ ds ∈ p, isStep (.tuple ds) = true) : ndt (progD p) = true := by
  unfold progD
  rw [ndt]
  have go : ∀ p : Prog, (∀ ds ∈ p, isStep (.tuple ds) = true) → ndtAll (p.map PyData.tuple) = true := by
    intro p
    induction p with
    | nil => intro _; rfl
    | cons ds p ih =>
      intro h
      rw [List.map_cons, ndtAll, ih fun d hd => h d (List.mem_cons_of_mem _ hd), ndt, ndt_wordy (step_wordy (h ds List.mem_cons_self)).2]
      rfl
  exact go p h
theorem lkv_keep {H H' : Hp} (e : KeepLT H H') : ∀ {L : Lib} {kvs : List (Key × V)}, (∀ r ∈ L, ∀ ds ∈ r.2, isStep (.tuple ds) = true) → LKv H kvs L → LKv H' kvs L
  | [], kvs, _, h => by rw [lkv_nil h]; exact .nil
  | r :: L, kvs, w, h => by
    obtain ⟨v, kvs', rfl, hv, h⟩ := lkv_inv h
    exact .cons (k := Sum.inr r.1) (Dt.keepLT e (ndt_prog (w r List.mem_cons_self)) hv) (lkv_keep e (fun y hy => w y (List.mem_cons_of_mem _ hy)) h)
theorem keepLT_upd {H : Hp} {p : Addr} {o : HO} (h1 : ∀ xs, H p ≠ some (.lst xs)) (h2 : ∀ xs, H p ≠ some (.tup xs)) : KeepLT H (upd H p o) :=
  ⟨fun b xs h => by rw [upd_ne (fun e : b = p => h1 xs (by rw [← e]; exact h))]; exact h, fun b xs h => by rw [upd_ne (fun e : b = p => h2 xs (by rw [← e]; exact h))]; exact h⟩
theorem KeepLT.trans {H H1 H2 : Hp} (a : KeepLT H H1) (b : KeepLT H1 H2) : KeepLT H H2 := ⟨fun c xs h => b.1 c xs (a.1 c xs h), fun c xs h => b.2 c xs (a.2 c xs h)⟩
theorem srt_at {L : Lib} (hk : (L.map (·.1)).Nodup) {i : Nat} (hi : i < (srtS (L.map (·.1))).length) : ∃ p, (srtL L)[i]? = some ((srtS (L.map (·.1)))[i], p) ∧ rowL L ((srtS (L.map (·.1)))[i]) = some ((srtS (L.map (·.1)))[i], p) := by
  have hm : (srtS (L.map (·.1)))[i] ∈ L.map (·.1) := (srtS_perm _).mem_iff.mp (List.getElem_mem hi)
  obtain ⟨r, hr, e⟩ := List.mem_map.mp hm
  refine ⟨r.2, ?_, ?_⟩
  · unfold srtL
    rw [List.getElem?_map, List.getElem?_eq_getElem hi]
    show some (_, progL L _) = _
    rw [← e, progL_in hk hr]
  · rw [← e]
    exact rowL_in hk hr
section
variable {P : Program} {w : World} {K : PySem.W.Frag} {mg : Str → Option Value} {base : Heap}
theorem ok_linit {f C : Addr} {fd : FuncData} {k : Nat} (F : Fun K "__init__" "Library.__init__" sLInit f fd) (B : Blt mg) (T : LbC K mg C) (h1 : HasO P w K mg base k "check_pairs" ["pairs"] spLPairs) (h2 : HasO P w K mg base k "bare_word" ["word"] spBareW) (h3 : HasO P w K mg base k "bare_program" ["program"] spBareP) : FnOk P w K mg base CX0 (k + 1) f fd ["self", "modules"] (spLInit C) := by
  obtain ⟨f1, d1, G1, b1, k1, g1⟩ := h1.ex
  obtain ⟨f2, d2, G2, b2, k2, g2⟩ := h2.ex
  obtain ⟨f3, d3, G3, b3, k3, g3⟩ := h3.ex
  refine F.ok scLInit (fun vs H Q E h => by obtain ⟨_, _, _, _, _, _, rfl, _⟩ := h; rfl) (fun cdv A outer s H vs Q E hr h => ?_)
  obtain ⟨x, dx, m, dm, kvs, L, rfl, hx, rfl, hd, hL, ok, q⟩ := h
  have hu := hu_of hr
  refine ⟨_, pss_cons (ps_if (pt_not (pt_val (pe_callB call_isi (by rfl) B.isi bIsi (pa_cons (pv 1) (pa_cons (pe_bltn (v := .ty "dict") (by rfl) B.dict bDict rfl) pa_nil))))) pss_dead' pss_nil)
    (pss_cons (ps_expr (pe_call (E := E0) G1 hr (by rfl) g1 k1 b1 .nil pass0 (pa_cons (LiI.pe_listItems rfl (pv 1) (by rfl) B.list bList) pa_nil)))
    (pss_one (ps_fld (pv 0) (pe_dc (own := [("name", 2)]) (g := gName 2) (tt := tYes) (tk := tCall spBareW [] E0 (tCons (tVar 2) tNil)) (tv := tCall spBareP [] E0 (tCons (tDGet (tVar 1) (tVar 2)) tNil)) rfl scLInit.nd (pi_list (pe_callB (call_sortedD rfl) (by rfl) B.sorted bSrt (pa_cons (pv 1) pa_nil))) (blkOk_by (own := [("name", 2)]) (N := nLInit) (sc := defScope sLInit) (by decide +kernel))
      (fun _ _ _ _ _ => pg_name (i := 2) scLInit.nd rfl (Or.inl rfl)) (fun _ _ _ _ _ => pts_nil) (fun _ _ _ _ _ => by exact pe_call (E := E0) G2 hr (by rfl) g2 k2 b2 .nil pass0 (pa_cons (pv 2) pa_nil)) (fun _ _ _ _ _ => by exact pe_call (E := E0) G3 hr (by rfl) g3 k3 b3 .nil pass0 (pa_cons (pe_dget hu (pv 1) (pv 2) (fun _ _ => rfl)) pa_nil))) rfl))), ?_⟩
  have dL : Dt H (.ref dm) (libD L) := .dct hd hL
  refine q_when (b := false) (et_is (et_not (et_B (ev_cb (ea_cons (ev_var rfl) (ea_cons ev_c ea_nil)) (rc_isi dL (by decide))))) rfl) (fun z => nomatch z) (fun _ H1 e1 => ?_)
  refine ⟨.ref dm, rfl, dm, kvs, rfl, e1 _ _ hd, fun H2 p ts e2 zp zts npts hp hts => ?_⟩
  have e12 : Ex H H2 := e1.trans e2
  refine ⟨p, ts, kvs, L, rfl, hp, hts, DtKv.ex e12 hL, ok, fun H3 e3 => ?_⟩
  have e13 := e12.trans e3
  have lk := lkv_len hL
  have l40 := ok.v.l40
  refine ⟨.ref dm, rfl, dm, kvs, L.map (·.1), rfl, .inl (e13 _ _ hd), by rw [lkv_keys hL, List.map_map]; rfl, by rw [List.length_map]; omega, fun ys S hp2 hs2 zS => ?_⟩
  have eys := sorted_is hp2 hs2
  subst eys
  have e4 : Ex H3 (upd H3 S (.lst ((srtS (L.map (·.1))).map V.str))) := Ex.new zS
  have hS : (upd H3 S (.lst ((srtS (L.map (·.1))).map V.str))) S = some (.lst ((srtS (L.map (·.1))).map V.str)) := upd_same
  generalize upd H3 S (.lst ((srtS (L.map (·.1))).map V.str)) = H4 at e4 hS ⊢
  have e14 := e13.trans e4
  refine ⟨S, rfl, ⟨_, sq_of hS⟩, fun D zD => ?_⟩
  have ls : (srtS (L.map (·.1))).length = L.length := by rw [(srtS_perm _).length_eq, List.length_map]
  have SD : S ≠ D := ne_of_none hS zD
  have zD0 : H D = none := fresh_back e14 zD
  have xD : x ≠ D := ne_of_none hx zD0
  have dD : dm ≠ D := ne_of_none hd zD0
  have st : ∀ r ∈ srtL L, ∀ ds ∈ r.2, isStep (.tuple ds) = true := fun r hr => ((srt_v ok.v).ok r hr).st
  refine dc_it (walk_list (K := K) (a := S) (xs := (srtS (L.map (·.1))).map V.str)) (fun i H' => Ex H4 H' ∧ ∃ kv, H' D = some (.dK kv) ∧ LKv H' kv ((srtL L).take i) ∧ ∀ e ∈ kv, ∃ al, e.2 = .ref al ∧ H al = none) ⟨Ex.new zD, [], upd_same, by rw [List.take_zero]; exact .nil, fun e h => nomatch h⟩ (fun i H' _ h => sq_of (h.1 _ _ hS)) ?_ ?_
  · rintro i v H5 H5' hi ⟨e5, kv, hD, hkv, hfr⟩ ⟨rfl, hy⟩
    rw [List.length_map] at hi
    rw [List.getElem?_map, List.getElem?_eq_getElem hi] at hy
    cases hy
    obtain ⟨pr, hat, hrow⟩ := srt_at ok.v.nd hi
    have hn := (srt_names L)
    generalize hnm : (srtS (L.map (·.1)))[i] = nm at hat hrow
    obtain ⟨mr, _⟩ := rowL_mem hrow
    have vn := ok.v.nm _ mr
    have vp : ProgV pr := ok.v.ok _ mr
    refine ⟨rfl, ?_⟩
    unfold tYes
    dsimp only
    rw [if_pos rfl]
    have ln := (low_free vn).1
    refine ⟨.str nm, rfl, nm, rfl, by show nm.length ≤ 1000; exact Nat.le_trans ln (by decide), fun H6 e6 => ?_⟩
    have e16 := (e14.trans e5).trans e6
    rcases lkv_val nm (DtKv.ex e16 hL) with ⟨z, _⟩ | ⟨r', v', hr', hv', dv'⟩
    · rw [hrow] at z; cases z
    rw [hrow] at hr'
    cases hr'
    obtain ⟨al, xs, rfl, hal, hxs⟩ := dt_lst dv'
    obtain ⟨vss, evs, hst, hsv⟩ := steps_of hxs (fun d hd => by obtain ⟨ds, hds, rfl⟩ := List.mem_map.mp hd; exact vp.st ds hds)
    have lv : vss.length = pr.length := by
      have := congrArg List.length evs
      unfold stepsD at this
      rw [List.length_map, List.length_map] at this
      exact this.symm
    refine ⟨.ref dm, rfl, .str nm, rfl, dm, .ref al, rfl, ?_, al, xs, vss, rfl, hal, hst, by rw [lv]; have := vp.len; omega, fun us hus => stepV_bare (hsv us hus), fun l ys H7 zl e7 hl hys => ?_⟩
    · rw [← hv']
      exact DGet.k (k := Sum.inr nm) (e16 _ _ hd)
    have hD7 := e7 _ _ (e6 _ _ hD)
    have hkv7 := DtKv.ex (e6.trans e7) hkv
    have nin : (Sum.inr nm : Key) ∉ kv.map (·.1) := by
      rw [lkv_keys hkv]
      intro hm
      obtain ⟨r, hr, er⟩ := List.mem_map.mp hm
      have er := Sum.inr.inj er
      have nd := (srt_v ok.v).nd
      rw [← List.take_append_drop i (srtL L), List.map_append, List.nodup_append] at nd
      refine nd.2.2 r.1 (List.mem_map_of_mem hr) nm ?_ er
      refine List.mem_map.mpr ⟨(nm, pr), ?_, rfl⟩
      rw [List.mem_iff_getElem?]
      exact ⟨0, by rw [List.getElem?_drop, Nat.add_zero, hat]⟩
    have dl : Dt H7 (.ref l) (progD pr) := by
      refine .lst hl ?_
      rw [evs]
      exact Steps.dt hys fun us hus => stepV_flat (hsv us hus)
    refine ⟨kv, Sum.inr nm, rfl, hD7, by rw [lkv_len hkv, List.length_take, sizeLine_eq]; have := srt_len L; omega, Ex.mut (e5.trans (e6.trans e7)) zD, _, upd_same, ?_⟩
    rw [putK_new nin, List.take_add_one, hat, Option.toList_some]
    have kp : KeepLT H7 (upd H7 D (.dK (kv ++ [(Sum.inr nm, .ref l)]))) := keepLT_upd (fun xs h => by rw [hD7] at h; cases h) (fun xs h => by rw [hD7] at h; cases h)
    refine ⟨lkv_snoc (Dt.keepLT kp (ndt_prog vp.st) dl) (lkv_keep kp (fun r hr => st r (List.mem_of_mem_take hr)) hkv7), fun e he => ?_⟩
    rcases List.mem_append.mp he with h | h
    · exact hfr e h
    · rw [List.mem_singleton.mp h]
      exact ⟨l, rfl, fresh_back e16 zl⟩
  · rintro H5 ⟨e5, kv, hD, hkv, hfr⟩
    rw [List.length_map, ls, ← srt_len L, List.take_length] at hkv
    have hx5 := e5 _ _ (e14 _ _ hx)
    refine ⟨.ref x, rfl, x, C, dx, [], rfl, hx5, T.cl, T.nI, by show 0 < 1000; decide, ?_⟩
    have kp : KeepLT H5 (upd H5 x (.ins C dx [("initializers", .ref D)])) := keepLT_upd (fun xs h => by rw [hx5] at h; cases h) (fun xs h => by rw [hx5] at h; cases h)
    exact q _ ⟨⟨dx, D, kv, upd_same, by rw [upd_ne xD.symm]; exact hD, lkv_keep kp st hkv, zD0, hfr⟩⟩ fun b o nb hb => by rw [upd_ne nb]; exact e5 _ _ (e14 _ _ hb)
end
end Cr
/-! libraries: their modules, programs, equal or not -/
namespace Cr
open PySem PySem.Spec PyProof.Rows L2 Evl
abbrev sLMods : Stmt := inClass (topS 47) 5
abbrev sLHas : Stmt := inClass (topS 47) 6
abbrev sLIni : Stmt := inClass (topS 47) 7
theorem scLMods : FnScope ["self"] ["self"] (defScope sLMods) := ⟨rfl, rfl, rfl, by decide +kernel, rfl, by decide +kernel, by decide +kernel⟩
theorem scLHas : FnScope ["self", "value"] ["self", "value"] (defScope sLHas) := ⟨rfl, rfl, rfl, by decide +kernel, rfl, by decide +kernel, by decide +kernel⟩
theorem scLIni : FnScope ["self", "module"] ["self", "module"] (defScope sLIni) := ⟨rfl, rfl, rfl, by decide +kernel, rfl, by decide +kernel, by decide +kernel⟩
def hasL (L : Lib) : PyData → Bool
  | .str n => isNameS n && (rowL L n).isSome
  | _ => false
def spLMods (C : Addr) : Sp := fun vs H Q _ => ∃ x L, vs = [.ref x] ∧ LbAt C H x L ∧ ∀ l H', H l = none → Ex H H' → H' l = some (.lst ((L.map (·.1)).map V.str)) → Q (.ref l) H'
def spLHas (C : Addr) : Sp := fun vs H Q _ => ∃ x v d L, vs = [.ref x, v] ∧ LbAt C H x L ∧ Dt H v d ∧ sm d = true ∧ ∀ H', Ex H H' → Q (.bl (hasL L d)) H'
/-- of a module that is there -/
def spLIni (C : Addr) : Sp := fun vs H Q _ => ∃ x n L p, vs = [.ref x, .str n] ∧ LbAt C H x L ∧ isNameS n = true ∧ rowL L n = some (n, p) ∧ ∀ l xs H', H l = none → Ex H H' → H' l = some (.lst xs) → DtAll H' xs (p.map PyData.tuple) → Q (.ref l) H'
/-! ### equal or not -/
def StepsV (L : Lib) : Prop := ∀ r ∈ L, ∀ ds ∈ r.2, isStep (.tuple ds) = true
section
variable {C x dx : Addr} {m : Str} {sp : Sp} {fs : List (Str × V)} {E : XK} {ta : TE} {t : TA} {σ : L2.St} {H : Hp} {vs xs : List V} {z : V}
theorem ev_mth (h : Ev ta σ H (.ref x)) (ho : H x = some (.ins C dx fs)) (hl : fs.lookup m = none) (ha : EvA t σ H vs) (hs : SpV sp (.ref x :: (vs ++ [])) H z) : Ev (tMeth C m sp [] E ta t) σ H z := fun H1 e Q q =>
  h H1 e _ fun H2 e2 => ⟨x, dx, fs, rfl, (e.trans e2) _ _ ho, hl, ha H2 (e.trans e2) _ fun H3 e3 => hs H3 ((e.trans e2).trans e3) Q (fun H4 e4 => q H4 ((e2.trans e3).trans e4)) E⟩
end
section
variable {P : Program} {w : World} {K : PySem.W.Frag} {mg : Str → Option Value} {base : Heap}
theorem ok_lmods {f C : Addr} {fd : FuncData} {k : Nat} (F : Fun K "modules" "Library.modules" sLMods f fd) (B : Blt mg) (T : LbC K mg C) : FnOk P w K mg base CX0 (k + 1) f fd ["self"] (spLMods C) := by
  refine F.ok scLMods (fun vs H Q E h => by obtain ⟨_, _, rfl, _⟩ := h; rfl) (fun cdv A outer s H vs Q E hr h => ?_)
  obtain ⟨x, L, rfl, lb, q⟩ := h
  obtain ⟨dx, dd, kvs, o1, o2, o3⟩ := lb.ob
  refine ⟨_, pss_one (ps_ret (pe_callTy (call_listD rfl) (by rfl) B.list bList (pa_cons (pe_fld (pv 0) rfl) pa_nil))), ?_⟩
  refine ⟨.ref x, rfl, x, C, dx, _, .ref dd, rfl, o1, T.cl, T.nI, rfl, dd, kvs, rfl, .inl o2, fun p zp => q p _ zp (Ex.new zp) ?_⟩
  rw [upd_same]
  have e : kvs.map (fun kv => kV kv.1) = (L.map (·.1)).map V.str := by
    have z := congrArg (List.map kV) (lkv_keys o3)
    rw [List.map_map, List.map_map] at z
    rw [List.map_map]
    exact z
  rw [e]
theorem ok_lhas {f C : Addr} {fd : FuncData} {k : Nat} (F : Fun K "has_module" "Library.has_module" sLHas f fd) (T : LbC K mg C) (h1 : HasO P w K mg base k "is_name" ["value"] (spD isName)) : FnOk P w K mg base CX0 (k + 1) f fd ["self", "value"] (spLHas C) := by
  obtain ⟨f1, d1, G1, b1, k1, g1⟩ := h1.ex
  refine F.ok scLHas (fun vs H Q E h => by obtain ⟨_, _, _, _, rfl, _⟩ := h; rfl) (fun cdv A outer s H vs Q E hr h => ?_)
  obtain ⟨x, v, d, L, rfl, lb, hd, hs, q⟩ := h
  have hu := hu_of hr
  refine ⟨_, pss_one (ps_ret (pe_and (pe_call (E := E0) G1 hr (by rfl) g1 k1 b1 .nil pass0 (pa_cons (pv 1) pa_nil)) (pe_one (pe_cmp (pc_din hu (pv 1) (pe_fld (pv 0) rfl)))))), ?_⟩
  obtain ⟨dx, dd, kvs, o1, o2, o3⟩ := lb.ob
  refine s_ret (v := .bl (hasL L d)) (ev_is (v := .bl (isName d && hasL L d)) (ev_andV (ev_call (ea_cons (ev_var rfl) ea_nil) (spv_D hd hs)) fun hb => ?_) ?_) q
  · cases d with
    | str n =>
      cases hd
      have hn : isNameS n = true := hb
      refine ev_is (v := .bl (valV kvs (.inr n)).isSome) (fun H1 e1 Q q => ⟨.str n, rfl, .ref x, rfl, x, C, dx, _, .ref dd, rfl, e1 _ _ o1, T.cl, T.nI, rfl, dd, valV kvs (.inr n), rfl, DGet.k (k := Sum.inr n) (e1 _ _ o2), q H1 (Ex.refl H1)⟩) ?_
      show V.bl _ = V.bl (isNameS n && (rowL L n).isSome)
      rw [hn]
      rcases lkv_val n o3 with ⟨h1, h2⟩ | ⟨r, u, h1, h2, _⟩
      · rw [h1, h2]; rfl
      · rw [h1, h2]; rfl
    | _ => exact nomatch hb
  · cases d with
    | str n =>
      show V.bl (isNameS n && (isNameS n && _)) = V.bl (isNameS n && _)
      rw [← Bool.and_assoc, Bool.and_self]
    | _ => rfl
theorem ok_lini {f C : Addr} {fd : FuncData} {k : Nat} (F : Fun K "initializer" "Library.initializer" sLIni f fd) (B : Blt mg) (T : LbC K mg C) (h1 : HasM P w K mg base CX0 k C "has_module" ["self", "value"] (spLHas C)) : FnOk P w K mg base CX0 (k + 1) f fd ["self", "module"] (spLIni C) := by
  obtain ⟨f1, d1, G1, b1, m1⟩ := h1.ex
  refine F.ok scLIni (fun vs H Q E h => by obtain ⟨_, _, _, _, rfl, _⟩ := h; rfl) (fun cdv A outer s H vs Q E hr h => ?_)
  obtain ⟨x, n, L, p, rfl, lb, hn, hrow, q⟩ := h
  have hu := hu_of hr
  refine ⟨_, pss_cons (ps_if (pt_not (pt_val (pe_meth (E := E0) (pv 0) T.cl m1 G1 hr b1 .nil pass0 (pa_cons (pv 1) pa_nil)))) pss_dead' pss_nil)
    (pss_one (ps_ret (pe_callTy call_list_of (by rfl) B.list bList (pa_cons (pe_dget hu (pe_fld (pv 0) rfl) (pv 1) (fun _ _ => rfl)) pa_nil)))), ?_⟩
  obtain ⟨dx, dd, kvs, o1, o2, o3⟩ := lb.ob
  have hh : hasL L (.str n) = true := by
    show (isNameS n && (rowL L n).isSome) = true
    rw [hn, hrow]
    rfl
  refine q_when (b := false) (et_is (et_not (et_B (ev_mth (ev_var rfl) o1 rfl (ea_cons (ev_var rfl) ea_nil) (z := .bl (hasL L (.str n))) (fun H1 e1 Q q E => ⟨x, .str n, .str n, L, rfl, lb.ex e1, .str n, nm_sm hn, q⟩)))) (by rw [hh]; rfl)) (fun z => nomatch z) (fun _ H1 e1 => ?_)
  rcases lkv_val n (DtKv.ex e1 o3) with ⟨z, _⟩ | ⟨r', v', hr', hv', dv'⟩
  · rw [hrow] at z; cases z
  rw [hrow] at hr'
  cases hr'
  obtain ⟨al, xs, rfl, hal, hxs⟩ := dt_lst dv'
  refine ⟨.ref x, rfl, x, C, dx, _, .ref dd, rfl, e1 _ _ o1, T.cl, T.nI, rfl, .str n, rfl, dd, .ref al, rfl, ?_, al, xs, rfl, .inl (sq_of hal), fun l zl => ?_⟩
  · rw [← hv']
    exact DGet.k (k := Sum.inr n) (e1 _ _ o2)
  · exact q l xs _ (fresh_back e1 zl) (e1.trans (Ex.new zl)) upd_same (DtAll.ex (Ex.new zl) hxs)
end
end Cr
/-! plain runs: what a run looks like in the heap, and how it changes -/
namespace Cr
open PySem PySem.Spec PyProof.Rows L2 Evl
abbrev Exs := List (Str × (Addr × Ints))
def adr (r : Str × (Addr × Ints)) : Addr := r.2.1
def exs0 (xs : Exs) : List (Str × Ints) := xs.map fun r => (r.1, r.2.2)
def kvE (xs : Exs) : List (Key × V) := xs.map fun r => (.inr r.1, .ref r.2.1)
def kvI (e : Ints) : List (Key × V) := e.map fun r => (.inr r.1, .int r.2)
def rdV (b : Bool) : V := .str (if b then "ready" else "failed")
def kvR (rs : List (Str × Bool)) : List (Key × V) := rs.map fun r => (.inr r.1, rdV r.2)
theorem key_one {α : Type} : ∀ {l : List (Str × α)}, (l.map (·.1)).Nodup → ∀ {r r'}, r ∈ l → r' ∈ l → r.1 = r'.1 → r = r'
  | [], _, _, _, h, _, _ => nomatch h
  | y :: l, hn, r, r', h, h', e => by
    rw [List.map_cons, List.nodup_cons] at hn
    rcases List.mem_cons.mp h with u | u
    · rcases List.mem_cons.mp h' with u' | u'
      · rw [u, u']
      · exact absurd (List.mem_map_of_mem (f := (·.1)) u') (by rw [← e, u]; exact hn.1)
    · rcases List.mem_cons.mp h' with u' | u'
      · exact absurd (List.mem_map_of_mem (f := (·.1)) u) (by rw [e, u']; exact hn.1)
      · exact key_one hn.2 u u' e
theorem putA_has {α : Type} {l : List (Str × α)} {n : Str} {v : α} (h : n ∈ l.map (·.1)) : putA l n v = l.map fun r => if r.1 = n then (r.1, v) else r := by
  unfold putA
  rw [if_pos]
  obtain ⟨r, hr, e⟩ := List.mem_map.mp h
  exact List.any_eq_true.mpr ⟨r, hr, decide_eq_true e⟩
theorem putA_map {α β : Type} (f : α → β) (l : List (Str × α)) (n : Str) (v : α) : (putA l n v).map (fun r => (r.1, f r.2)) = putA (l.map fun r => (r.1, f r.2)) n (f v) := by
  have e : ((l.map fun r => (r.1, f r.2)).map (·.1)) = l.map (·.1) := by rw [List.map_map]; rfl
  by_cases h : n ∈ l.map (·.1)
  · rw [putA_has h, putA_has (by rw [e]; exact h), List.map_map, List.map_map]
    refine List.map_congr_left fun r _ => ?_
    show (((if r.1 = n then (r.1, v) else r).1, f (if r.1 = n then (r.1, v) else r).2) : Str × β) = if r.1 = n then (r.1, f v) else (r.1, f r.2)
    split <;> rfl
  · rw [putA_new h, putA_new (by rw [e]; exact h), List.map_append]
    rfl
theorem getA_map {α β : Type} (f : α → β) (l : List (Str × α)) (n : Str) : getA (l.map fun r => (r.1, f r.2)) n = (getA l n).map f := by
  induction l with
  | nil => rfl
  | cons r l ih =>
    unfold getA at ih ⊢
    rw [List.map_cons, List.find?_cons, List.find?_cons]
    by_cases h : r.1 = n
    · rw [decide_eq_true h]; rfl
    · rw [decide_eq_false h]; exact ih
theorem adr_same {xs : Exs} {md : Str} {a : Addr} {e e' : Ints} (hn : (xs.map (·.1)).Nodup) (h : getA xs md = some (a, e)) : (putA xs md (a, e')).map adr = xs.map adr := by
  have hk : md ∈ xs.map (·.1) := getA_key.mp (by rw [h]; rfl)
  rw [putA_has hk, List.map_map]
  refine List.map_congr_left fun r hr => ?_
  show adr (if r.1 = md then (r.1, (a, e')) else r) = adr r
  split
  · rename_i er
    have : r = (md, (a, e)) := key_one hn hr (getA_mem h) er
    rw [this]
    rfl
  · rfl
theorem adr_new {xs : Exs} {md : Str} {a : Addr} {e : Ints} (hn : (xs.map (·.1)).Nodup) (hd : (xs.map adr).Nodup) (ha : a ∉ xs.map adr) : ((putA xs md (a, e)).map adr).Nodup := by
  by_cases hk : md ∈ xs.map (·.1)
  · rw [putA_has hk, List.map_map]
    refine List.pairwise_map.mpr ?_
    have p1 := List.pairwise_map.mp hn
    have p2 := List.pairwise_map.mp hd
    refine List.Pairwise.imp_of_mem (fun {r r'} hr hr' h => ?_) (p1.and p2)
    have na : ∀ r ∈ xs, adr r ≠ a := fun r hr e => ha (by rw [← e]; exact List.mem_map_of_mem hr)
    show adr (if r.1 = md then (r.1, (a, e)) else r) ≠ adr (if r'.1 = md then (r'.1, (a, e)) else r')
    by_cases h1 : r.1 = md
    · by_cases h2 : r'.1 = md
      · exact absurd (h1.trans h2.symm) h.1
      · rw [if_pos h1, if_neg h2]
        exact (na r' hr').symm
    · by_cases h2 : r'.1 = md
      · rw [if_neg h1, if_pos h2]
        exact na r hr
      · rw [if_neg h1, if_neg h2]
        exact h.2
  · rw [putA_new hk, List.map_append]
    exact List.nodup_append.mpr ⟨hd, by simp, fun b hb c hc e => ha (by
      have : c = a := List.mem_singleton.mp hc
      rw [← this, ← e]
      exact hb)⟩
theorem adr_in {xs : Exs} {md : Str} {a b : Addr} {e : Ints} (h : b ∈ (putA xs md (a, e)).map adr) : b = a ∨ b ∈ xs.map adr := by
  obtain ⟨r, hr, rfl⟩ := List.mem_map.mp h
  rcases putA_in hr with h | ⟨h, _⟩
  · exact .inr (List.mem_map_of_mem h)
  · exact .inl (by show r.2.1 = a; rw [h])
/-! ### the run -/
structure ScA where
  dx : Addr
  lib : Addr
  aO : Addr
  aR : Addr
  aE : Addr
def flP (A : ScA) : List (Str × V) := [("known_library", .ref A.lib), ("started", .ref A.aO), ("results", .ref A.aR), ("exported", .ref A.aE)]
theorem flP_lib (A : ScA) : (flP A).lookup ("known_library" : Str) = some (.ref A.lib) := by rfl
theorem flP_op (A : ScA) : (flP A).lookup ("started" : Str) = some (.ref A.aO) := by rfl
theorem flP_rs (A : ScA) : (flP A).lookup ("results" : Str) = some (.ref A.aR) := by rfl
theorem flP_ex (A : ScA) : (flP A).lookup ("exported" : Str) = some (.ref A.aE) := by rfl
def ownS (A : ScA) (xs : Exs) : List Addr := A.aO :: A.aR :: A.aE :: xs.map adr
structure ScAt (CP CL : Addr) (HB H : Hp) (L : Lib) (p : Addr) (A : ScA) (s : Sc) (xs : Exs) : Prop where
  ob : H p = some (.ins CP A.dx (flP A))
  op : H A.aO = some (.lst (s.op.map V.str))
  rs : H A.aR = some (.dK (kvR s.rs))
  exd : H A.aE = some (.dK (kvE xs))
  exs : exs0 xs = s.ex
  ini : ∀ r ∈ xs, H r.2.1 = some (.dK (kvI r.2.2))
  nd : (ownS A xs).Nodup
  nb : ∀ a ∈ ownS A xs, HB a = none
  bx : Ex HB H
  lb : LbAt CL HB A.lib L
section
variable {CP CL p : Addr} {HB H H' : Hp} {L : Lib} {A : ScA} {s : Sc} {xs : Exs}
theorem in_O : A.aO ∈ ownS A xs := List.mem_cons_self
theorem in_R : A.aR ∈ ownS A xs := List.mem_cons_of_mem _ List.mem_cons_self
theorem in_E : A.aE ∈ ownS A xs := List.mem_cons_of_mem _ (List.mem_cons_of_mem _ List.mem_cons_self)
theorem in_I {r : Str × (Addr × Ints)} (h : r ∈ xs) : r.2.1 ∈ ownS A xs := List.mem_cons_of_mem _ (List.mem_cons_of_mem _ (List.mem_cons_of_mem _ (List.mem_map_of_mem (f := adr) h)))
theorem ScAt.ex (h : ScAt CP CL HB H L p A s xs) (e : Ex H H') : ScAt CP CL HB H' L p A s xs := ⟨e _ _ h.ob, e _ _ h.op, e _ _ h.rs, e _ _ h.exd, h.exs, fun r hr => e _ _ (h.ini r hr), h.nd, h.nb, h.bx.trans e, h.lb⟩
theorem ScAt.lbH (h : ScAt CP CL HB H L p A s xs) : LbAt CL H A.lib L := h.lb.ex h.bx
theorem ScAt.own_some (h : ScAt CP CL HB H L p A s xs) : ∀ a ∈ ownS A xs, ∃ o, H a = some o ∧ (∀ ys, o ≠ .tup ys) ∧ (∀ C dx fs, o ≠ .ins C dx fs) ∧ (∀ g, o ≠ .ext g) := fun a ha => by
  rcases List.mem_cons.mp ha with rfl | ha
  · exact ⟨_, h.op, fun ys z => (nomatch z), fun C dx fs z => (nomatch z), fun g z => (nomatch z)⟩
  rcases List.mem_cons.mp ha with rfl | ha
  · exact ⟨_, h.rs, fun ys z => (nomatch z), fun C dx fs z => (nomatch z), fun g z => (nomatch z)⟩
  rcases List.mem_cons.mp ha with rfl | ha
  · exact ⟨_, h.exd, fun ys z => (nomatch z), fun C dx fs z => (nomatch z), fun g z => (nomatch z)⟩
  · obtain ⟨r, hr, rfl⟩ := List.mem_map.mp ha
    exact ⟨_, h.ini r hr, fun ys z => (nomatch z), fun C dx fs z => (nomatch z), fun g z => (nomatch z)⟩
theorem ScAt.p_no (h : ScAt CP CL HB H L p A s xs) : p ∉ ownS A xs := fun hp => by
  obtain ⟨o, h1, _, h3, _⟩ := h.own_some p hp
  rw [h.ob] at h1
  cases h1
  exact h3 _ _ _ rfl
theorem ScAt.no_ext (h : ScAt CP CL HB H L p A s xs) {a : Addr} {g : Heap → Prop} (ha : H a = some (.ext g)) : a ∉ ownS A xs := fun z => by
  obtain ⟨o, h1, _, _, h4⟩ := h.own_some a z
  rw [ha] at h1
  cases h1
  exact h4 _ rfl
/-- what changes is not the run's -/
theorem ScAt.but {l : List Addr} (h : ScAt CP CL HB H L p A s xs) (b : But l H H') (h1 : p ∉ l) (h2 : ∀ a ∈ ownS A xs, a ∉ l) (h3 : ∀ a ∈ l, HB a = none) : ScAt CP CL HB H' L p A s xs :=
  ⟨b _ _ h1 h.ob, b _ _ (h2 _ in_O) h.op, b _ _ (h2 _ in_R) h.rs, b _ _ (h2 _ in_E) h.exd, h.exs, fun r hr => b _ _ (h2 _ (in_I hr)) (h.ini r hr), h.nd, h.nb, fun a o z => b _ _ (fun hl => by rw [h3 a hl] at z; cases z) (h.bx _ _ z), h.lb⟩
theorem ScAt.tps (h : ScAt CP CL HB H L p A s xs) (b : But (ownS A xs) H H') : Tps H H' := tps_own b fun a ha ys z => by
  obtain ⟨o, h1, h2, _⟩ := h.own_some a ha
  rw [h1] at z
  cases z
  exact h2 _ rfl
theorem ScAt.bx_upd (h : ScAt CP CL HB H L p A s xs) {a : Addr} {o : HO} (ha : a ∈ ownS A xs) : Ex HB (upd H a o) := fun b u z => by
  rw [upd_ne (fun e => by rw [e, h.nb a ha] at z; cases z)]
  exact h.bx _ _ z
theorem ScAt.ne (h : ScAt CP CL HB H L p A s xs) {a : Addr} (ha : a ∈ ownS A xs) : p ≠ a := fun e => h.p_no (by rw [e]; exact ha)
theorem ScAt.dis (h : ScAt CP CL HB H L p A s xs) : A.aO ≠ A.aR ∧ A.aO ≠ A.aE ∧ A.aR ≠ A.aE ∧ (∀ r ∈ xs, r.2.1 ≠ A.aO ∧ r.2.1 ≠ A.aR ∧ r.2.1 ≠ A.aE) := by
  obtain ⟨n1, n2⟩ := List.nodup_cons.mp h.nd
  obtain ⟨n3, n4⟩ := List.nodup_cons.mp n2
  obtain ⟨n5, n6⟩ := List.nodup_cons.mp n4
  refine ⟨fun e => n1 (by rw [e]; exact List.mem_cons_self), fun e => n1 (by rw [e]; exact List.mem_cons_of_mem _ List.mem_cons_self), fun e => n3 (by rw [e]; exact List.mem_cons_self), fun r hr => ?_⟩
  have hm := List.mem_map_of_mem (f := adr) hr
  exact ⟨fun e => n1 (by rw [← e]; exact List.mem_cons_of_mem _ (List.mem_cons_of_mem _ hm)), fun e => n3 (by rw [← e]; exact List.mem_cons_of_mem _ hm), fun e => n5 (by rw [← e]; exact hm)⟩
/-- the list of what was started -/
theorem ScAt.setO (h : ScAt CP CL HB H L p A s xs) (op' : List Str) : ScAt CP CL HB (upd H A.aO (.lst (op'.map V.str))) L p A ⟨op', s.rs, s.ex⟩ xs := by
  obtain ⟨d1, d2, d3, d4⟩ := h.dis
  exact ⟨by rw [upd_ne (h.ne in_O)]; exact h.ob, upd_same, by rw [upd_ne d1.symm]; exact h.rs, by rw [upd_ne d2.symm]; exact h.exd, h.exs, fun r hr => by rw [upd_ne (d4 r hr).1]; exact h.ini r hr, h.nd, h.nb, h.bx_upd in_O, h.lb⟩
theorem ScAt.setR (h : ScAt CP CL HB H L p A s xs) (rs' : List (Str × Bool)) : ScAt CP CL HB (upd H A.aR (.dK (kvR rs'))) L p A ⟨s.op, rs', s.ex⟩ xs := by
  obtain ⟨d1, d2, d3, d4⟩ := h.dis
  exact ⟨by rw [upd_ne (h.ne in_R)]; exact h.ob, by rw [upd_ne d1]; exact h.op, upd_same, by rw [upd_ne d3.symm]; exact h.exd, h.exs, fun r hr => by rw [upd_ne (d4 r hr).2.1]; exact h.ini r hr, h.nd, h.nb, h.bx_upd in_R, h.lb⟩
theorem exs_keys (h : exs0 xs = s.ex) (wf : WfS s) : (xs.map (·.1)).Nodup := by
  have z := wf.nx
  rw [← h] at z
  unfold keysA exs0 at z
  rw [List.map_map] at z
  exact z
/-- no exports yet, in a new dict -/
theorem ScAt.newE (h : ScAt CP CL HB H L p A s xs) (wf : WfS s) {md : Str} {a : Addr} (ha : H a = some (.dK [])) (h1 : a ∉ ownS A xs) (h2 : HB a = none) : ScAt CP CL HB (upd H A.aE (.dK (kvE (putA xs md (a, []))))) L p A ⟨s.op, s.rs, putA s.ex md []⟩ (putA xs md (a, [])) ∧ (∀ b ∈ ownS A (putA xs md (a, [])), b = a ∨ b ∈ ownS A xs) := by
  obtain ⟨d1, d2, d3, d4⟩ := h.dis
  have nk := exs_keys h.exs wf
  have ha1 : a ≠ A.aO := fun e => h1 (by rw [e]; exact in_O)
  have ha2 : a ≠ A.aR := fun e => h1 (by rw [e]; exact in_R)
  have ha3 : a ≠ A.aE := fun e => h1 (by rw [e]; exact in_E)
  have ha4 : a ∉ xs.map adr := fun z => h1 (List.mem_cons_of_mem _ (List.mem_cons_of_mem _ (List.mem_cons_of_mem _ z)))
  obtain ⟨n1, n2⟩ := List.nodup_cons.mp h.nd
  obtain ⟨n3, n4⟩ := List.nodup_cons.mp n2
  obtain ⟨n5, n6⟩ := List.nodup_cons.mp n4
  have inn : ∀ b ∈ ownS A (putA xs md (a, [])), b = a ∨ b ∈ ownS A xs := fun b hb => by
    rcases List.mem_cons.mp hb with rfl | hb
    · exact .inr in_O
    rcases List.mem_cons.mp hb with rfl | hb
    · exact .inr in_R
    rcases List.mem_cons.mp hb with rfl | hb
    · exact .inr in_E
    rcases adr_in hb with rfl | hb
    · exact .inl rfl
    · exact .inr (List.mem_cons_of_mem _ (List.mem_cons_of_mem _ (List.mem_cons_of_mem _ hb)))
  refine ⟨⟨by rw [upd_ne (h.ne in_E)]; exact h.ob, by rw [upd_ne d2]; exact h.op, by rw [upd_ne d3]; exact h.rs, upd_same, ?_, fun r hr => ?_, ?_, fun b hb => ?_, h.bx_upd in_E, h.lb⟩, inn⟩
  · show exs0 _ = putA s.ex md []
    rw [← h.exs]
    exact putA_map (fun z : Addr × Ints => z.2) xs md (a, [])
  · rcases putA_in hr with hr | ⟨hr, _⟩
    · rw [upd_ne (d4 r hr).2.2]
      exact h.ini r hr
    · rw [hr, upd_ne ha3]
      exact ha
  · refine List.nodup_cons.mpr ⟨fun z => ?_, List.nodup_cons.mpr ⟨fun z => ?_, List.nodup_cons.mpr ⟨fun z => ?_, adr_new nk n6 ha4⟩⟩⟩
    · rcases List.mem_cons.mp z with e | z
      · exact d1 e
      rcases List.mem_cons.mp z with e | z
      · exact d2 e
      rcases adr_in z with e | z
      · exact ha1 e.symm
      · exact n1 (List.mem_cons_of_mem _ (List.mem_cons_of_mem _ z))
    · rcases List.mem_cons.mp z with e | z
      · exact d3 e
      rcases adr_in z with e | z
      · exact ha2 e.symm
      · exact n3 (List.mem_cons_of_mem _ z)
    · rcases adr_in z with e | z
      · exact ha3 e.symm
      · exact n5 z
  · rcases inn b hb with rfl | hb
    · exact h2
    · exact h.nb b hb
/-- one export -/
theorem ScAt.export (h : ScAt CP CL HB H L p A s xs) (wf : WfS s) {md l : Str} {a : Addr} {e : Ints} {i : Int} (hg : getA xs md = some (a, e)) : ScAt CP CL HB (upd H a (.dK (kvI (putA e l i)))) L p A (expS s (some md) l i) (putA xs md (a, putA e l i)) ∧ ownS A (putA xs md (a, putA e l i)) = ownS A xs := by
  obtain ⟨d1, d2, d3, d4⟩ := h.dis
  have nk := exs_keys h.exs wf
  have hin := getA_mem hg
  have io : a ∈ ownS A xs := in_I hin
  obtain ⟨q1, q2, q3⟩ := d4 _ hin
  have eo : ownS A (putA xs md (a, putA e l i)) = ownS A xs := by unfold ownS; rw [adr_same nk hg]
  have ge : getA s.ex md = some e := by
    rw [← h.exs]
    unfold exs0
    rw [getA_map (fun z : Addr × Ints => z.2), hg]
    rfl
  refine ⟨⟨by rw [upd_ne (h.ne io)]; exact h.ob, by rw [upd_ne q1.symm]; exact h.op, by rw [upd_ne q2.symm]; exact h.rs, ?_, ?_, fun r hr => ?_, by rw [eo]; exact h.nd, by rw [eo]; exact h.nb, h.bx_upd io, h.lb⟩, eo⟩
  · rw [upd_ne q3.symm, h.exd]
    congr 2
    unfold kvE
    have : (putA xs md (a, putA e l i)).map (fun r => ((.inr r.1 : Key), V.ref r.2.1)) = xs.map (fun r => ((.inr r.1 : Key), V.ref r.2.1)) := by
      rw [putA_has (getA_key.mp (by rw [hg]; rfl)), List.map_map]
      refine List.map_congr_left fun r hr => ?_
      show ((.inr (if r.1 = md then (r.1, (a, putA e l i)) else r).1 : Key), V.ref (if r.1 = md then (r.1, (a, putA e l i)) else r).2.1) = _
      split
      · rename_i er
        have : r = (md, (a, e)) := key_one nk hr hin er
        rw [this]
      · rfl
    exact this.symm
  · show exs0 _ = putA s.ex md (putA ((getA s.ex md).getD []) l i)
    rw [ge, ← h.exs]
    exact putA_map (fun z : Addr × Ints => z.2) xs md (a, putA e l i)
  · rcases putA_in hr with hr' | ⟨hr', _⟩
    · by_cases hra : r.2.1 = a
      · -- the same address: the row itself
        rcases Classical.em (r.1 = md) with er | er
        · rw [hra, upd_same]
          have z : r ∈ putA xs md (a, putA e l i) := hr
          rw [putA_has (getA_key.mp (by rw [hg]; rfl))] at z
          obtain ⟨y, hy, hyr⟩ := List.mem_map.mp z
          by_cases ey : y.1 = md
          · rw [if_pos ey] at hyr
            rw [← hyr]
          · rw [if_neg ey] at hyr
            rw [hyr] at ey
            exact absurd er ey
        · exfalso
          have p2 := (List.pairwise_map.mp (List.nodup_cons.mp (List.nodup_cons.mp (List.nodup_cons.mp h.nd).2).2).2)
          have inj : ∀ {l : Exs}, l.Pairwise (fun a b => adr a ≠ adr b) → ∀ {r r'}, r ∈ l → r' ∈ l → adr r = adr r' → r = r' := by
            intro l
            induction l with
            | nil => intro _ r r' h; exact nomatch h
            | cons y l ih =>
              intro hp r r' h h' e
              obtain ⟨a1, a2⟩ := List.pairwise_cons.mp hp
              rcases List.mem_cons.mp h with u | u
              · rcases List.mem_cons.mp h' with u' | u'
                · rw [u, u']
                · rw [u] at e
                  exact absurd e (a1 _ u')
              · rcases List.mem_cons.mp h' with u' | u'
                · rw [u'] at e
                  exact absurd e.symm (a1 _ u)
                · exact ih a2 u u' e
          have := inj p2 hr' hin hra
          exact er (by rw [this])
      · rw [upd_ne hra]
        exact h.ini r hr'
    · rw [hr']
      exact upd_same
end
end Cr
/-! frames: clone -/
namespace Cr
open PySem PySem.Spec PyProof.Rows L2 Evl
/-- the making of a frame -/
structure MkF (P : Program) (w : World) (K : PySem.W.Frag) (mg : Str → Option Value) (base : Heap) (k : Nat) (C CE : Addr) : Prop where
  ex : ∃ f fd, Mk K C f ∧ FnOk P w K mg base (L2.CX P w) k f fd ["self", "program"] (spFrI C CE) ∧ Binds K fd ["self", "program"] []
end Cr
/-! plain runs: PlainRun.__init__, get_past -/
namespace Cr
open PySem PySem.Spec PyProof.Rows L2 Evl
abbrev sPInit : Stmt := inClass (topS 39) 0
abbrev sPPast : Stmt := inClass (topS 39) 3
abbrev nPPast : List Str := ["self", "frame", "readable", "step", "is_ready"]
theorem scPInit : FnScope ["self", "library"] ["self", "library"] (defScope sPInit) := ⟨rfl, rfl, rfl, by decide +kernel, rfl, by decide +kernel, by decide +kernel⟩
theorem scPPast : FnScope nPPast ["self", "frame", "readable"] (defScope sPPast) := ⟨rfl, rfl, rfl, by decide +kernel, rfl, by decide +kernel, by decide +kernel⟩
/-- the class -/
structure PrC (K : PySem.W.Frag) (mg : Str → Option Value) (C : Addr) : Prop where
  cl : Cls K C
  nL : NoAttr K C "known_library"
  nS : NoAttr K C "started"
  nR : NoAttr K C "results"
  nE : NoAttr K C "exported"
  at_ : mg "PlainRun" = some (.ref C)
/-- pass_step, with and without its keyword -/
structure PassP (P : Program) (w : World) (K : PySem.W.Frag) (mg : Str → Option Value) (base : Heap) (k : Nat) (C CW CN : Addr) : Prop where
  ex : ∃ f fd, FnOk P w K mg base (L2.CX P w) k f fd ["self", "value"] (spPass C CW CN) ∧ (∃ ds, Vals [.non] ds ∧ Binds K fd ["self", "value"] ds) ∧ (∃ g, KBn K fd ["self", "value"] 1 ["value"] g (fun vs zs => vs ++ zs)) ∧ Meth K C "pass_step" f
/-- a library, all that its programs say -/
structure LibU (labs : List Str) (L : Lib) : Prop where
  n : LibN (L.map (·.1)) labs L
  v : LibV L
  ll : labs.length ≤ 2000
theorem LibU.few {labs : List Str} {L : Lib} {s : Sc} (u : LibU labs L) (wf : WfS s) (nm : NmS (L.map (·.1)) labs s) : Few s := few_of wf nm (by have := u.v.l40; rw [List.length_map]; omega) u.ll
theorem LibU.row {labs : List Str} {L : Lib} (u : LibU labs L) {md : Str} (h : md ∈ L.map (·.1)) : rowL L md = some (md, progL L md) ∧ isNameS md = true := by
  obtain ⟨r, hr, rfl⟩ := List.mem_map.mp h
  refine ⟨?_, u.v.nm r hr⟩
  rw [rowL_in u.v.nd hr, progL_in u.v.nd hr]
def spPrI (C : Addr) : Sp := fun vs H Q _ => ∃ (p dx lib : Addr), vs = [.ref p, .ref lib] ∧ H p = some (.ins C dx []) ∧
  ∀ aO aR aE H', H aO = none → H aR = none → H aE = none → aO ≠ aR → aO ≠ aE → aR ≠ aE → H' p = some (.ins C dx (flP ⟨dx, lib, aO, aR, aE⟩)) → H' aO = some (.lst []) → H' aR = some (.dK []) → H' aE = some (.dK []) → But [p] H H' → Q .non H'
/-- a module's first need -/
def spPIni (CP CL : Addr) (n : Nat) : Sp := fun vs H Q _ => ∃ HB L labs p A s xs md b s', vs = [.ref p, .str md] ∧ LibU labs L ∧ ScAt CP CL HB H L p A s xs ∧ WfS s ∧ NmS (L.map (·.1)) labs s ∧ md ∈ L.map (·.1) ∧ initS L n s md = .ok (b, s') ∧
  ∀ xs' H', ScAt CP CL HB H' L p A s' xs' → But (ownS A xs) H H' → (∀ a ∈ ownS A xs', a ∈ ownS A xs ∨ H a = none) → Q (.bl b) H'
/-- a frame beside the run -/
structure FrAp (HB : Hp) (p : Addr) (A : ScA) (xs : Exs) (fp : Addr) (FA : FrA) : Prop where
  f1 : ∀ a ∈ [fp, FA.aS, FA.aM, FA.aV], a ∉ p :: ownS A xs
  f2 : ∀ a ∈ own fp FA, HB a = none
section
variable {CP CL CF p fp : Addr} {HB H H' : Hp} {L : Lib} {A : ScA} {FA : FrA} {s s' : Sc} {xs xs' : Exs} {vss : List (List V)} {pos k : Nat} {m : M4}
theorem FrAp.mono (h : FrAp HB p A xs fp FA) (fr : FrameAt CF H fp FA vss pos m k) (hn : ∀ a ∈ ownS A xs', a ∈ ownS A xs ∨ H a = none) : FrAp HB p A xs' fp FA := ⟨(fun a ha z => by
  have som : ∃ o, H a = some o := by
    obtain ⟨ys, g1, _⟩ := fr.st
    obtain ⟨vis, g3, _⟩ := fr.vi
    simp only [List.mem_cons, List.not_mem_nil, or_false] at ha
    rcases ha with rfl | rfl | rfl | rfl
    · exact ⟨_, fr.ob⟩
    · exact ⟨_, g1⟩
    · exact ⟨_, fr.me⟩
    · exact ⟨_, g3⟩
  rcases List.mem_cons.mp z with e | z
  · exact h.f1 a ha (by rw [e]; exact List.mem_cons_self)
  · rcases hn a z with z | z
    · exact h.f1 a ha (List.mem_cons_of_mem _ z)
    · obtain ⟨o, ho⟩ := som
      rw [ho] at z
      cases z), h.f2⟩
/-- the run changed: the frame stands -/
theorem FrAp.fr (h : FrAp HB p A xs fp FA) (sc : ScAt CP CL HB H L p A s xs) (fr : FrameAt CF H fp FA vss pos m k) (b : But (ownS A xs) H H') : FrameAt CF H' fp FA vss pos m k :=
  fr.but b (sc.tps b) (fun z => h.f1 fp (by simp) (List.mem_cons_of_mem _ z)) (fun z => h.f1 FA.aS (by simp) (List.mem_cons_of_mem _ z)) (fun z => h.f1 FA.aM (by simp) (List.mem_cons_of_mem _ z)) (fun z => h.f1 FA.aV (by simp) (List.mem_cons_of_mem _ z))
/-- the frame changed: the run stands -/
theorem FrAp.sc (h : FrAp HB p A xs fp FA) (sc : ScAt CP CL HB H L p A s xs) (b : But (own fp FA) H H') : ScAt CP CL HB H' L p A s xs := by
  have sub : ∀ a ∈ own fp FA, a ∈ [fp, FA.aS, FA.aM, FA.aV] := fun a ha => by
    simp only [own, List.mem_cons, List.not_mem_nil, or_false] at ha ⊢
    rcases ha with rfl | rfl | rfl
    · exact .inl rfl
    · exact .inr (.inr (.inl rfl))
    · exact .inr (.inr (.inr rfl))
  exact sc.but b (fun z => h.f1 p (sub p z) List.mem_cons_self) (fun a ha z => h.f1 a (sub a z) (List.mem_cons_of_mem _ ha)) h.f2
end
theorem other_np {us : List V} (h : OtherV us) : isPlain (.tuple (us.map flD)) = false := by
  have no : ∀ {z : Str} {ds : List PyData}, (plain3.any fun y => y == z) = false → isPlain (.tuple (.str z :: ds)) = false := fun {z ds} h => by
    show (isStep (.tuple (.str z :: ds)) && (plain3.any fun y => y == z)) = false
    rw [h, Bool.and_false]
  cases h <;> exact no (by decide +kernel)
theorem pass_ok {vss : List (List V)} {pos : Nat} {us : List V} (hus : vss[pos]? = some us) (ov : OtherV us) {α : Prop} (h : vss[pos]? = none ∨ isPlain (nextD vss pos) = true) : α := by
  rcases h with h | h
  · rw [hus] at h; cases h
  · unfold nextD at h
    rw [hus] at h
    have h : isPlain (.tuple (us.map flD)) = true := h
    rw [other_np ov] at h
    cases h
def isTryV (us : List V) : Bool := decide (us.getD 0 .non = .str "try")
/-- a need or a try of a module -/
inductive NeedV : List V → Str → Prop
  | need {md : Str} : NeedV [.str "need", .str md] md
  | try_ {md x : Str} (h : isVar (.str x) = true) : NeedV [.str "try", .str md, .str x] md
theorem NeedV.other {us : List V} {md : Str} (h : NeedV us md) : OtherV us := by
  cases h with
  | need => exact .need
  | try_ h => exact .try_ h
theorem NeedV.at1 {us : List V} {md : Str} (h : NeedV us md) : us[1]? = some (.str md) := by cases h <;> rfl
theorem NeedV.at0 {us : List V} {md : Str} (h : NeedV us md) : us[0]? = some (.str (if isTryV us = true then "try" else "need")) := by
  cases h with
  | need =>
    rw [if_neg (by show ¬ decide (V.str "need" = V.str "try") = true; decide +kernel)]
    rfl
  | try_ h =>
    rw [if_pos (by show decide _ = true; exact decide_eq_true rfl)]
    rfl
def b01 (b : Bool) : Int := if b then 1 else 0
/-- what becomes of the frame -/
def pastF (us : List V) (b : Bool) (pos k : Nat) (m : M4) : Nat × Nat × M4 := if (b || isTryV us) = true then (pos + 1, k + 1, memoO us (b01 b) m) else (pos, k, m)
def spPast (P : Program) (w : World) (CP CL CF : Addr) (n : Nat) : Sp := fun vs H Q _ => ∃ HB L labs p A s xs fp FA vss pos m k rd kvs us md b s', vs = [.ref p, .ref fp, .ref rd] ∧ LibU labs L ∧ ScAt CP CL HB H L p A s xs ∧ WfS s ∧ NmS (L.map (·.1)) labs s ∧ FrameAt CF H fp FA vss pos m k ∧ H rd = some (LfO P w rd kvs) ∧ kvs.length ≤ 900 ∧ FrAp HB p A xs fp FA ∧ HB rd = none ∧
  (vss.length ≤ 900 ∧ k ≤ 900) ∧ (∀ us ∈ vss, StepV us) ∧ vss[pos]? = some us ∧ NeedV us md ∧ md ∈ L.map (·.1) ∧ initS L n s md = .ok (b, s') ∧
  ∀ xs' H', ScAt CP CL HB H' L p A s' xs' → FrameAt CF H' fp FA vss (pastF us b pos k m).1 (pastF us b pos k m).2.2 (pastF us b pos k m).2.1 → H' rd = some (LfO P w rd (if b = true then putK kvs (.text md) (.bl true) else kvs)) → But (rd :: (ownS A xs ++ own fp FA)) H H' → (∀ a ∈ ownS A xs', a ∈ ownS A xs ∨ H a = none) → Q (.bl (b || isTryV us)) H'
section
variable {P : Program} {w : World} {K : PySem.W.Frag} {mg : Str → Option Value} {base : Heap}
theorem ok_prinit {f C : Addr} {fd : FuncData} {k : Nat} (F : Fun K "__init__" "PlainRun.__init__" sPInit f fd) (T : PrC K mg C) : FnOk P w K mg base CX0 (k + 1) f fd ["self", "library"] (spPrI C) := by
  refine F.ok scPInit (fun vs H Q E h => by obtain ⟨_, _, _, rfl, _⟩ := h; rfl) (fun cdv A outer s H vs Q E hr h => ?_)
  obtain ⟨p, dx, lib, rfl, hp, q⟩ := h
  refine ⟨_, pss_cons (ps_fld (pv 0) (pv 1) rfl) (pss_cons (ps_fld (pv 0) (pe_lst pa_nil) rfl) (pss_cons (ps_fld (pv 0) pe_dnewK rfl) (pss_one (ps_fld (pv 0) pe_dnewK rfl)))), ?_⟩
  refine ⟨.ref lib, rfl, .ref p, rfl, p, C, dx, [], rfl, hp, T.cl, T.nL, by show 0 < 1000; decide, ?_⟩
  refine ⟨Nat.zero_le _, fun aO zO => ⟨.ref p, rfl, p, C, dx, _, rfl, Ex.new zO _ _ upd_same, T.cl, T.nS, by show 1 < 1000; decide, ?_⟩⟩
  have nO : aO ≠ p := fun e => by rw [e, upd_same] at zO; cases zO
  have zO0 : H aO = none := by rw [upd_ne nO] at zO; exact zO
  intro aR zR
  have nR : aR ≠ p := fun e => by rw [e, upd_same] at zR; cases zR
  rw [upd_ne nR] at zR
  have nRO : aR ≠ aO := fun e => by rw [e, upd_same] at zR; cases zR
  rw [upd_ne nRO, upd_ne nR] at zR
  refine ⟨.ref p, rfl, p, C, dx, _, rfl, by rw [upd_ne nR.symm, upd_same], T.cl, T.nR, by show 2 < 1000; decide, ?_⟩
  intro aE zE
  have nE : aE ≠ p := fun e => by rw [e, upd_same] at zE; cases zE
  rw [upd_ne nE] at zE
  have nER : aE ≠ aR := fun e => by rw [e, upd_same] at zE; cases zE
  rw [upd_ne nER, upd_ne nE] at zE
  have nEO : aE ≠ aO := fun e => by rw [e, upd_same] at zE; cases zE
  rw [upd_ne nEO, upd_ne nE] at zE
  refine ⟨.ref p, rfl, p, C, dx, _, rfl, by rw [upd_ne nE.symm, upd_same], T.cl, T.nE, by show 3 < 1000; decide, ?_⟩
  refine q aO aR aE _ zO0 zR zE nRO.symm nEO.symm nER.symm (by rw [upd_same]; rfl) ?_ ?_ ?_ ?_
  · rw [upd_ne nO, upd_ne nEO.symm, upd_ne nO, upd_ne nRO.symm, upd_ne nO, upd_same]
  · rw [upd_ne nR, upd_ne nER.symm, upd_ne nR, upd_same]
  · rw [upd_ne nE, upd_same]
  · intro a o ha hao
    have nap : a ≠ p := fun e => ha (by rw [e]; exact List.mem_cons_self)
    rw [upd_ne nap, upd_ne (fun e => by rw [e, zE] at hao; cases hao), upd_ne nap, upd_ne (fun e => by rw [e, zR] at hao; cases hao), upd_ne nap, upd_ne (fun e => by rw [e, zO0] at hao; cases hao), upd_ne nap]
    exact hao
theorem ok_past {f C CL CF CW CN : Addr} {fd : FuncData} {k n : Nat} (F : Fun K "get_past" "PlainRun.get_past" sPPast f fd) (B : Blt mg) (T : PrC K mg C) (TF : FrC K mg CF) (hN : HasM P w K mg base CX0 k CF "next_step" ["self"] (spNext CF)) (hI : HasM P w K mg base CX0 k C "initialize" ["self", "module"] (spPIni C CL n)) (hP : PassP P w K mg base k CF CW CN) :
    FnOk P w K mg base CX0 (k + 1) f fd ["self", "frame", "readable"] (spPast P w C CL CF n) := by
  obtain ⟨fN, dN, GN, bN, mN⟩ := hN.ex
  obtain ⟨fI, dI, GI, bI, mI⟩ := hI.ex
  obtain ⟨fP, dP, GP, ⟨ds, vd, bP⟩, ⟨gP, kb⟩, mP⟩ := hP.ex
  refine F.ok scPPast (fun vs H Q E h => by obtain ⟨_, _, _, _, _, _, _, _, _, _, _, _, _, _, _, _, _, _, _, rfl, _⟩ := h; rfl) (fun cdv A outer s H vs Q E hr h => ?_)
  obtain ⟨HB, L, labs, p, A', s, xs, fp, FA, vss, pos, m, k0, rd, kvs, us, md, b, s', rfl, LU, sc, wf, nm, fr, hrd, hkv, ap, hBr, few, hV, hus, nv, hmd, hini, q⟩ := h
  refine ⟨_, pss_cons (ps_set (i := 3) scPPast.nd rfl (.inl rfl) (pe_meth0 (E := E0) (pv 1) TF.cl mN GN hr bN .nil pass0))
    (pss_cons (ps_set (i := 4) scPPast.nd rfl (.inl rfl) (pe_meth (E := E0) (pv 0) T.cl mI GI hr bI .nil pass0 (pa_cons (pe_ix ix_tup (pv 3) pe_int (fun _ _ => rfl)) pa_nil)))
    (pss_cut (ps_if (pt_val (pv 4)) (pss_one (ps_lput (pv 2) (pe_ix ix_tup (pv 3) pe_int (fun _ _ => rfl)) pe_bl rfl)) pss_nil)
    (pss_cut (ps_if (pt_cmpR op_eq (pe_ix ix_tup (pv 3) pe_int (fun _ _ => rfl)) pe_str (nomark _))
        (pss_one (ps_expr (methK0 (E := fun _ => E0) (pv 1) TF.cl mP GP hr kb (fun σ pins H s e s' I c => passL pins σ H s e s' I c) (pk_cons (pe_callTy call_int1 (by rfl) B.int bInt (pa_cons (pv 4) pa_nil)) pk_nil))))
        (pss_one (ps_if (pt_val (pv 4)) (pss_one (ps_expr (pe_meth0 (E := E0) (pv 1) TF.cl mP GP hr bP vd passL))) pss_nil)))
    (pss_one (ps_ret (pe_or (pv 4) (pe_one (pe_cmpR op_eq (pe_ix ix_tup (pv 3) pe_int (fun _ _ => rfl)) pe_str (nomark _))))))))), ?_⟩
  have hlt : pos < vss.length := (List.getElem?_eq_some_iff.mp hus).1
  have hu0 := nv.at0
  have hu1 := nv.at1
  refine q_asgAny ⟨.ref fp, rfl, fp, FA.dx, _, rfl, fr.ob, by rfl, fp, FA, vss, pos, m, k0, rfl, fr, ⟨by omega, by omega⟩, Nat.le_of_lt hlt, fun v2 H1 e1 hv => ?_⟩
  obtain ⟨t, rfl, hT⟩ : ∃ t, v2 = .ref t ∧ H1 t = some (.tup us) := by
    rcases hv with ⟨_, e⟩ | ⟨t, us', rfl, h1, h2⟩
    · omega
    · rw [hus] at h1
      cases h1
      exact ⟨t, rfl, h2⟩
  have ix : ∀ {H' : Hp} {σ : L2.St} {j : Nat} {v : V}, H' t = some (.tup us) → σ[3]? = some (some (.ref t)) → us[j]? = some v → Ev (tOp (rIxT K) (tVar 3) (tC (.int (j : Int)))) σ H' v := fun hT hσ h => ev_op (ev_var hσ) ev_c (rv_ixT (st_of hT) (atI_nat h))
  refine q_asgAny ⟨.ref p, rfl, p, A'.dx, _, rfl, e1 _ _ sc.ob, by rfl, ix (j := 1) hT rfl hu1 H1 (Ex.refl H1) _ fun H2 e2 => ?_⟩
  have e12 := e1.trans e2
  refine ⟨HB, L, labs, p, A', s, xs, md, b, s', rfl, LU, sc.ex e12, wf, nm, hmd, hini, fun xs' H3 sc3 b3 n3 => ?_⟩
  have n3' : ∀ a ∈ ownS A' xs', a ∈ ownS A' xs ∨ H a = none := fun a ha => (n3 a ha).imp id (fun z => fresh_back e12 z)
  have fr3 := ap.fr (sc.ex e12) (fr.ex e12) b3
  have ap3 := ap.mono (fr.ex e12) n3
  have hT3 : H3 t = some (.tup us) := (sc.ex e12).tps b3 _ _ (e2 _ _ hT)
  have nrd : rd ∉ ownS A' xs := sc.no_ext hrd
  have hrd3 : H3 rd = some (LfO P w rd kvs) := b3 _ _ nrd (e12 _ _ hrd)
  have nrd3 : rd ∉ ownS A' xs' := sc3.no_ext hrd3
  have bt3 : But (rd :: (ownS A' xs ++ own fp FA)) H H3 := (But.of e12).trans (b3.mono fun a ha => List.mem_cons_of_mem _ (List.mem_append_left _ ha))
  have er : ∀ {H' : Hp}, H' t = some (.tup us) → Ev (tOp rEq (tOp (rIxT K) (tVar 3) (tC (.int 0))) (tC (.str "try"))) [some (.ref p), some (.ref fp), some (.ref rd), some (.ref t), some (.bl b)] H' (.bl (isTryV us)) := fun hT => ev_is (ev_op (ix (j := 0) hT rfl hu0) ev_c (rv_eq rfl)) (by
    congr 1
    cases isTryV us with
    | true => rw [if_pos rfl]; exact decide_eq_true rfl
    | false => rw [if_neg (by decide)]; exact decide_eq_false (fun e => absurd (V.str.inj e) (by decide +kernel)))
  -- what may be read
  refine q_cut (M := fun σ H4 => σ = [some (.ref p), some (.ref fp), some (.ref rd), some (.ref t), some (.bl b)] ∧ ScAt C CL HB H4 L p A' s' xs' ∧ FrameAt CF H4 fp FA vss pos m k0 ∧ H4 t = some (.tup us) ∧ H4 rd = some (LfO P w rd (if b = true then putK kvs (.text md) (.bl true) else kvs)) ∧ But (rd :: (ownS A' xs ++ own fp FA)) H H4) ?_ ?_
  · refine et_B (ev_var rfl) H3 (Ex.refl H3) _ fun H4 e4 => ?_
    cases b with
    | false => exact ⟨rfl, sc3.ex e4, fr3.ex e4, e4 _ _ hT3, e4 _ _ hrd3, bt3.trans (But.of e4)⟩
    | true =>
      refine ⟨.ref rd, rfl, ix (j := 1) (e4 _ _ hT3) rfl hu1 H4 (Ex.refl H4) _ fun H5 e5 => ?_⟩
      have e45 := e4.trans e5
      have h5 := e45 _ _ hrd3
      refine ⟨rd, kvs, .text md, rfl, h5, by show kvs.length < sizeLine; exact sz_lt (by omega), rfl, ?_⟩
      have b5 : But [rd] H3 (upd H5 rd (LfO P w rd (putK kvs (.text md) (.bl true)))) := (But.of e45).upd (by simp)
      have tp5 : Tps H3 (upd H5 rd (LfO P w rd (putK kvs (.text md) (.bl true)))) := tps_own b5 fun a ha ys z => by
        rw [List.mem_singleton.mp ha, hrd3] at z
        cases z
      have nfr : rd ∉ own fp FA ∧ rd ≠ FA.aS := ⟨(fun z => by
        simp only [own, List.mem_cons, List.not_mem_nil, or_false] at z
        obtain ⟨vis, v1, _⟩ := fr3.vi
        rcases z with e | e | e
        · rw [e, fr3.ob] at hrd3; cases hrd3
        · rw [e, fr3.me] at hrd3; cases hrd3
        · rw [e, v1] at hrd3; cases hrd3), (fun e => by
        obtain ⟨ys, g1, _⟩ := fr3.st
        rw [e, g1] at hrd3
        cases hrd3)⟩
      refine ⟨rfl, sc3.but b5 (fun z => ?_) (fun a ha z => nrd3 (by rw [← List.mem_singleton.mp z]; exact ha)) (fun a ha => by rw [List.mem_singleton.mp ha]; exact hBr), fr3.but b5 tp5 ?_ ?_ ?_ ?_, tp5 _ _ hT3, upd_same, bt3.trans (b5.mono fun a ha => by rw [List.mem_singleton.mp ha]; exact List.mem_cons_self)⟩
      · rw [← List.mem_singleton.mp z, sc3.ob] at hrd3
        cases hrd3
      · exact fun z => nfr.1 (by rw [← List.mem_singleton.mp z]; exact List.mem_cons_self)
      · exact fun z => nfr.2 (List.mem_singleton.mp z).symm
      · exact fun z => nfr.1 (by rw [← List.mem_singleton.mp z]; exact List.mem_cons_of_mem _ List.mem_cons_self)
      · exact fun z => nfr.1 (by rw [← List.mem_singleton.mp z]; exact List.mem_cons_of_mem _ (List.mem_cons_of_mem _ List.mem_cons_self))
  rintro σ H4 ⟨rfl, sc4, fr4, hT4, hrd4, b4⟩
  -- the frame passes, or stays
  have pass : ∀ {H5 H6 : Hp} {i : Int}, Ex H4 H5 → FrameAt CF H6 fp FA vss (pos + 1) (memoO us i m) (k0 + 1) → But (own fp FA) H5 H6 → ScAt C CL HB H6 L p A' s' xs' ∧ H6 t = some (.tup us) ∧ H6 rd = some (LfO P w rd (if b = true then putK kvs (.text md) (.bl true) else kvs)) ∧ But (rd :: (ownS A' xs ++ own fp FA)) H H6 := fun {H5 H6 i} e5 fr6 b6 => by
    have hrd5 := e5 _ _ hrd4
    have fr5 := fr4.ex e5
    have nfr : rd ∉ own fp FA := fun z => by
      simp only [own, List.mem_cons, List.not_mem_nil, or_false] at z
      obtain ⟨vis, v1, _⟩ := fr5.vi
      rcases z with e | e | e
      · rw [e, fr5.ob] at hrd5; cases hrd5
      · rw [e, fr5.me] at hrd5; cases hrd5
      · rw [e, v1] at hrd5; cases hrd5
    exact ⟨ap3.sc (sc4.ex e5) b6, fr5.tps b6 _ _ (e5 _ _ hT4), b6 _ _ nfr hrd5, (b4.trans (But.of e5)).trans (b6.mono fun a ha => List.mem_cons_of_mem _ (List.mem_append_right _ ha))⟩
  refine q_cut (M := fun σ H6 => σ = [some (.ref p), some (.ref fp), some (.ref rd), some (.ref t), some (.bl b)] ∧ ScAt C CL HB H6 L p A' s' xs' ∧ FrameAt CF H6 fp FA vss (pastF us b pos k0 m).1 (pastF us b pos k0 m).2.2 (pastF us b pos k0 m).2.1 ∧ H6 t = some (.tup us) ∧ H6 rd = some (LfO P w rd (if b = true then putK kvs (.text md) (.bl true) else kvs)) ∧ But (rd :: (ownS A' xs ++ own fp FA)) H H6) ?_ ?_
  rotate_left
  · rintro σ H6 ⟨rfl, sc6, fr6, hT6, hrd6, b6⟩
    refine ⟨.bl b, rfl, b, rfl, ?_⟩
    cases b with
    | true => exact q xs' H6 sc6 fr6 hrd6 b6 n3'
    | false => exact er hT6 H6 (Ex.refl H6) _ fun H7 e7 => q xs' H7 (sc6.ex e7) (fr6.ex e7) (e7 _ _ hrd6) (b6.trans (But.of e7)) n3'
  refine et_test (er hT4) H4 (Ex.refl H4) _ fun H5 e5 => ?_
  cases ht : isTryV us with
  | true =>
    have pf : pastF us b pos k0 m = (pos + 1, k0 + 1, memoO us (b01 b) m) := if_pos (by rw [ht, Bool.or_true])
    have rv : rightV us (.int (b01 b)) = true := by
      cases nv with
      | need => exact absurd ht (by show ¬ decide (V.str "need" = V.str "try") = true; decide +kernel)
      | try_ h => unfold rightV; rw [given_try]; rfl
    refine ⟨.ref fp, rfl, fp, FA.dx, _, rfl, e5 _ _ fr4.ob, by rfl, ?_⟩
    refine ea_cons (ev_cb (ea_cons (ev_var rfl) ea_nil) (z := .int (b01 b)) (fun H6 e6 Q q => .inr ⟨b, rfl, q H6 (Ex.refl H6)⟩)) ea_nil H5 (Ex.refl H5) _ fun H6 e6 => ?_
    have fr6 := (fr4.ex e5).ex e6
    refine ⟨rfl, fp, .int (b01 b), .int (b01 b), FA, vss, pos, m, k0, rfl, .int _, rfl, fr6, few, Nat.le_of_lt hlt, hV, fun us' H7 hus' ov' rv' fr7 b7 => ?_, fun h => ?_, fun us' H7 hus' ov' rv' e7 => ?_⟩
    · rw [hus] at hus'
      cases hus'
      obtain ⟨a1, a2, a3, a4⟩ := pass (e5.trans e6) fr7 b7
      exact ⟨rfl, a1, by rw [pf]; exact fr7, a2, a3, a4⟩
    · exact pass_ok hus nv.other h
    · rw [hus] at hus'
      cases hus'
      rw [rv] at rv'
      cases rv'
  | false =>
    rw [if_neg (show ¬ (false = true) by decide)]
    refine (et_B (ev_var rfl) : EvT (tB (tVar 4)) [some (.ref p), some (.ref fp), some (.ref rd), some (.ref t), some (.bl b)] H5 b) H5 (Ex.refl H5) _ fun H6 e6 => ?_
    cases b with
    | false =>
      have pf : pastF us false pos k0 m = (pos, k0, m) := if_neg (by rw [ht]; decide)
      have e56 := e5.trans e6
      exact ⟨rfl, sc4.ex e56, by rw [pf]; exact fr4.ex e56, e56 _ _ hT4, e56 _ _ hrd4, b4.trans (But.of e56)⟩
    | true =>
      have pf : pastF us true pos k0 m = (pos + 1, k0 + 1, memoO us (b01 true) m) := if_pos (by rw [ht]; rfl)
      have gn : givenX us = none := by
        cases nv with
        | need => rfl
        | try_ h => exact absurd ht (by show ¬ decide (V.str "try" = V.str "try") = false; decide +kernel)
      have rv : rightV us .none = true := by unfold rightV; rw [gn]; rfl
      have e56 := e5.trans e6
      refine ⟨.ref fp, rfl, fp, FA.dx, _, rfl, e56 _ _ fr4.ob, by rfl, ?_⟩
      refine ⟨fp, .non, .none, FA, vss, pos, m, k0, rfl, .non, rfl, fr4.ex e56, few, Nat.le_of_lt hlt, hV, fun us' H7 hus' ov' rv' fr7 b7 => ?_, fun h => ?_, fun us' H7 hus' ov' rv' e7 => ?_⟩
      · rw [hus] at hus'
        cases hus'
        obtain ⟨a1, a2, a3, a4⟩ := pass e56 fr7 b7
        refine ⟨rfl, a1, ?_, a2, a3, a4⟩
        rw [pf]
        unfold memoO at fr7 ⊢
        rw [gn] at fr7 ⊢
        exact fr7
      · exact pass_ok hus nv.other h
      · rw [hus] at hus'
        cases hus'
        rw [rv] at rv'
        cases rv'
end
end Cr
/-! plain runs: execute -/
namespace Cr
open PySem PySem.Spec PyProof.Rows L2 Evl
abbrev sPExec : Stmt := inClass (topS 39) 2
abbrev nPExec : List Str := ["self", "module", "frame", "readable", "step"]
theorem scPExec : FnScope nPExec ["self", "module", "frame"] (defScope sPExec) := ⟨rfl, rfl, rfl, by decide +kernel, rfl, by decide +kernel, by decide +kernel⟩
def meV : Option Str → V
  | some n => .str n
  | none => .non
def meK : Option Str → Leaf
  | some n => .text n
  | none => .none
def meL : Option Str → List Str
  | some n => [n]
  | none => []
theorem me_leaf (me : Option Str) : leafV (meV me) = some (meK me) := by cases me <;> rfl
def noExp (me : Option Str) (vss : List (List V)) : Prop := me = none → ∀ us ∈ vss, ∀ a b, us ≠ [.str "export", .str a, .str b]
/-- what a program is, beside the library -/
structure PgU (labs : List Str) (L : Lib) (me : Option Str) (vss : List (List V)) : Prop where
  ln : vss.length ≤ 30
  st : ∀ us ∈ vss, StepV us
  ft : FitsP vss
  kn : KnP (L.map (·.1)) labs vss
  ne : noExp me vss
def spExec (CP CL CF : Addr) (n : Nat) : Sp := fun vs H Q _ => ∃ HB L labs p A s xs me fp FA vss b m' s', vs = [.ref p, meV me, .ref fp] ∧ LibU labs L ∧ ScAt CP CL HB H L p A s xs ∧ WfS s ∧ NmS (L.map (·.1)) labs s ∧ FrameAt CF H fp FA vss 0 .zero 0 ∧ FrAp HB p A xs fp FA ∧ PgU labs L me vss ∧ (∀ n, me = some n → n ∈ keysA s.ex) ∧ execS (initS L n) me vss (vss.length + 1) 0 .zero (meL me) s = .ok (b, m', s') ∧
  ∀ xs' H' pos' k', ScAt CP CL HB H' L p A s' xs' → FrameAt CF H' fp FA vss pos' m' k' → But (ownS A xs ++ own fp FA) H H' → (∀ a ∈ ownS A xs', a ∈ ownS A xs ∨ H a = none) → Q (.bl b) H'
/-- where the loop stands: so many steps are left at most -/
structure ExI (P : Program) (w : World) (CP CL CF : Addr) (HB H0 : Hp) (L : Lib) (labs : List Str) (p : Addr) (A : ScA) (xs : Exs) (me : Option Str) (fp : Addr) (FA : FrA) (vss : List (List V)) (rd : Addr) (n : Nat) (r : Bool × M4 × Sc) (H1 : Hp) (pos k : Nat) (m : M4) (seen : List Str) (s1 : Sc) (xs1 : Exs) (kvs : LKs) : Prop where
  kp : k ≤ pos
  pl : pos ≤ vss.length
  sc : ScAt CP CL HB H1 L p A s1 xs1
  wf : WfS s1
  nm : NmS (L.map (·.1)) labs s1
  mx : ∀ n, me = some n → n ∈ keysA s1.ex
  sn : ∀ q ∈ seen, q ∈ keysA s1.ex
  fr : FrameAt CF H1 fp FA vss pos m k
  ap : FrAp HB p A xs1 fp FA
  hr : H1 rd = some (LfO P w rd kvs)
  kv : ∀ q, (valV kvs (.text q)).isSome = decide (q ∈ seen)
  kl : kvs.length ≤ k + 1
  bt : But (rd :: (ownS A xs ++ own fp FA)) H0 H1
  nw : ∀ a ∈ ownS A xs1, a ∈ ownS A xs ∨ H0 a = none
  ru : ∃ fu, vss.length < fu + pos ∧ execS (initS L n) me vss fu pos m seen s1 = .ok r
section
variable {P : Program} {w : World} {CP CL CF p fp rd : Addr} {HB H0 H1 H2 : Hp} {L : Lib} {labs : List Str} {A : ScA} {FA : FrA} {xs xs1 xs2 : Exs} {me : Option Str} {vss : List (List V)} {n : Nat} {r : Bool × M4 × Sc} {pos k d : Nat} {m m2 : M4} {seen seen2 : List Str} {s1 s2 : Sc} {kvs kvs2 : LKs} {us : List V}
theorem ExI.ex (h : ExI P w CP CL CF HB H0 L labs p A xs me fp FA vss rd n r H1 pos k m seen s1 xs1 kvs) (e : Ex H1 H2) : ExI P w CP CL CF HB H0 L labs p A xs me fp FA vss rd n r H2 pos k m seen s1 xs1 kvs :=
  ⟨h.kp, h.pl, h.sc.ex e, h.wf, h.nm, h.mx, h.sn, h.fr.ex e, h.ap, e _ _ h.hr, h.kv, h.kl, h.bt.trans (But.of e), h.nw, h.ru⟩
theorem ExI.nrd (h : ExI P w CP CL CF HB H0 L labs p A xs me fp FA vss rd n r H1 pos k m seen s1 xs1 kvs) : rd ∉ own fp FA := fun z => by
  have hrd := h.hr
  simp only [own, List.mem_cons, List.not_mem_nil, or_false] at z
  obtain ⟨vis, v1, _⟩ := h.fr.vi
  rcases z with e | e | e
  · rw [e, h.fr.ob] at hrd; cases hrd
  · rw [e, h.fr.me] at hrd; cases hrd
  · rw [e, v1] at hrd; cases hrd
theorem ExI.new (h : ExI P w CP CL CF HB H0 L labs p A xs me fp FA vss rd n r H1 pos k m seen s1 xs1 kvs) (n2 : ∀ a ∈ ownS A xs2, a ∈ ownS A xs1 ∨ H1 a = none) : ∀ a ∈ ownS A xs2, a ∈ ownS A xs ∨ H0 a = none := fun a ha => by
  rcases n2 a ha with z | z
  · exact h.nw a z
  · by_cases ho : a ∈ ownS A xs
    · exact .inl ho
    · right
      cases h0 : H0 a with
      | none => rfl
      | some o =>
        exfalso
        have nin : a ∉ rd :: (ownS A xs ++ own fp FA) := fun y => by
          rcases List.mem_cons.mp y with e | y
          · rw [e, h.hr] at z; cases z
          rcases List.mem_append.mp y with y | y
          · exact ho y
          · simp only [own, List.mem_cons, List.not_mem_nil, or_false] at y
            obtain ⟨vis, v1, _⟩ := h.fr.vi
            rcases y with e | e | e
            · rw [e, h.fr.ob] at z; cases z
            · rw [e, h.fr.me] at z; cases z
            · rw [e, v1] at z; cases z
        rw [h.bt a o nin h0] at z
        cases z
theorem ExI.bts (h : ExI P w CP CL CF HB H0 L labs p A xs me fp FA vss rd n r H1 pos k m seen s1 xs1 kvs) (b : But (rd :: (ownS A xs1 ++ own fp FA)) H1 H2) : But (rd :: (ownS A xs ++ own fp FA)) H0 H2 := fun a o ha ho => by
  refine b a o (fun y => ha ?_) (h.bt a o ha ho)
  rcases List.mem_cons.mp y with e | y
  · rw [e]; exact List.mem_cons_self
  rcases List.mem_append.mp y with y | y
  · rcases h.nw a y with z | z
    · exact List.mem_cons_of_mem _ (List.mem_append_left _ z)
    · rw [ho] at z; cases z
  · exact List.mem_cons_of_mem _ (List.mem_append_right _ y)
/-- one step on -/
theorem ExI.step (h : ExI P w CP CL CF HB H0 L labs p A xs me fp FA vss rd n r H1 pos k m seen s1 xs1 kvs) (u : LibU labs L) (g : PgU labs L me vss) (hus : vss[pos]? = some us) (hx : stepX (initS L n) me us m seen s1 = .go d m2 seen2 s2)
    (hd : pos + d ≤ vss.length) (sc2 : ScAt CP CL HB H2 L p A s2 xs2) (fr2 : FrameAt CF H2 fp FA vss (pos + d) m2 (k + 1)) (rd2 : H2 rd = some (LfO P w rd kvs2)) (kv2 : ∀ q, (valV kvs2 (.text q)).isSome = decide (q ∈ seen2)) (kl2 : kvs2.length ≤ k + 1 + 1) (b2 : But (rd :: (ownS A xs1 ++ own fp FA)) H1 H2) (n2 : ∀ a ∈ ownS A xs2, a ∈ ownS A xs1 ∨ H1 a = none) :
    ExI P w CP CL CF HB H0 L labs p A xs me fp FA vss rd n r H2 (pos + d) (k + 1) m2 seen2 s2 xs2 kvs2 ∧ 1 ≤ d := by
  have hin := List.mem_of_getElem? hus
  obtain ⟨d1, gr, w2, sn2⟩ := step_gr (init_good u.n.r n) (g.kn.po us hin) h.wf h.mx h.sn hx
  have nm2 := step_nm (init_nm u.n n) (g.kn.po us hin) (g.kn.mi us hin) (g.kn.la us hin) h.wf h.nm h.mx (.inl ⟨d, seen2, hx⟩)
  obtain ⟨fu, f1, f2⟩ := h.ru
  have hlt : pos < vss.length := (List.getElem?_eq_some_iff.mp hus).1
  cases fu with
  | zero => omega
  | succ fu =>
    rw [exec_at hus, hx] at f2
    have kp := h.kp
    exact ⟨⟨by omega, hd, sc2, w2, nm2, fun n e => gr.ex n (h.mx n e), sn2, fr2, h.ap.mono h.fr n2, rd2, kv2, kl2, h.bts b2, h.new n2, ⟨fu, by omega, f2⟩⟩, d1⟩
/-- the program stops here -/
theorem ExI.stop (h : ExI P w CP CL CF HB H0 L labs p A xs me fp FA vss rd n r H1 pos k m seen s1 xs1 kvs) (hus : vss[pos]? = some us) (hx : stepX (initS L n) me us m seen s1 = .halt m2 s2) : r = (false, m2, s2) := by
  obtain ⟨fu, f1, f2⟩ := h.ru
  have hlt : pos < vss.length := (List.getElem?_eq_some_iff.mp hus).1
  cases fu with
  | zero => omega
  | succ fu =>
    rw [exec_at hus, hx] at f2
    cases f2
    rfl
theorem ExI.over (h : ExI P w CP CL CF HB H0 L labs p A xs me fp FA vss rd n r H1 pos k m seen s1 xs1 kvs) (e : pos = vss.length) : r = (true, m, s1) := by
  obtain ⟨fu, f1, f2⟩ := h.ru
  rw [exec_end (List.getElem?_eq_none (by omega))] at f2
  cases f2
  rfl
/-- what a need or a try meets -/
theorem ExI.ini (h : ExI P w CP CL CF HB H0 L labs p A xs me fp FA vss rd n r H1 pos k m seen s1 xs1 kvs) {md : Str} (hus : vss[pos]? = some us) (nv : NeedV us md) : ∃ b s', initS L n s1 md = .ok (b, s') := by
  obtain ⟨fu, f1, f2⟩ := h.ru
  have hlt : pos < vss.length := (List.getElem?_eq_some_iff.mp hus).1
  cases fu with
  | zero => omega
  | succ fu =>
    rw [exec_at hus] at f2
    cases hi : initS L n s1 md with
    | ok r => exact ⟨r.1, r.2, rfl⟩
    | error c =>
      cases nv with
      | need => rw [stepX_need, hi] at f2; cases f2
      | try_ _ => rw [stepX_try, hi] at f2; cases f2
end
/-- what a step does that needs or tries -/
theorem past_go {ini : ScF} {me : Option Str} {us : List V} {md : Str} (nv : NeedV us md) {b : Bool} {s s' : Sc} {m : M4} {seen : List Str} (hi : ini s md = .ok (b, s')) (hc : (b || isTryV us) = true) : stepX ini me us m seen s = .go 1 (memoO us (b01 b) m) (if b = true then seen ++ [md] else seen) s' := by
  cases nv with
  | need =>
    have e : isTryV [.str "need", .str md] = false := by show decide (V.str "need" = V.str "try") = false; decide +kernel
    rw [e, Bool.or_false] at hc
    subst hc
    rw [stepX_need, hi]
    rfl
  | @try_ _ x h =>
    rw [stepX_try, hi]
    cases b with
    | true => show SR.go 1 (m.set x 1) _ _ = SR.go 1 (memoO _ _ m) _ _; unfold memoO; rw [given_try]; rfl
    | false => show SR.go 1 (m.set x 0) _ _ = SR.go 1 (memoO _ _ m) _ _; unfold memoO; rw [given_try]; rfl
theorem past_halt {ini : ScF} {me : Option Str} {us : List V} {md : Str} (nv : NeedV us md) {b : Bool} {s s' : Sc} {m : M4} {seen : List Str} (hi : ini s md = .ok (b, s')) (hc : (b || isTryV us) = false) : stepX ini me us m seen s = .halt m s' := by
  obtain ⟨h1, h2⟩ := Bool.or_eq_false_iff.mp hc
  subst h1
  cases nv with
  | need =>
    rw [stepX_need, hi]
  | try_ h => exact absurd h2 (by show ¬ decide (V.str "try" = V.str "try") = false; decide +kernel)
end Cr
/-! plain runs: execute, proved -/
namespace Cr
open PySem PySem.Spec PyProof.Rows L2 Evl
section
variable {P : Program} {w : World} {K : PySem.W.Frag} {mg : Str → Option Value} {base : Heap}
theorem ok_exec {f C CL CF CW CN : Addr} {fd : FuncData} {k n : Nat} (F : Fun K "execute" "PlainRun.execute" sPExec f fd) (B : Blt mg) (T : PrC K mg C) (TF : FrC K mg CF)
    (hO : HasM P w K mg base CX0 k CF "is_over" ["self"] (spLook CF fun vss pos _ _ => .bl (decide (pos = vss.length)))) (hN : HasM P w K mg base CX0 k CF "next_step" ["self"] (spNext CF)) (hV : HasM P w K mg base CX0 k CF "variables" ["self"] (spVars CF)) (hR : HasM P w K mg base (L2.CX P w) k CF "run_plain" ["self"] (spRun CF CW))
    (hI : HasO P w K mg base k "is_plain" ["step"] (spD isPlain)) (hP : PassP P w K mg base k CF CW CN) (hG : HasM P w K mg base CX0 k C "get_past" ["self", "frame", "readable"] (spPast P w C CL CF n)) :
    FnOk P w K mg base CX0 (k + 1) f fd ["self", "module", "frame"] (spExec C CL CF n) := by
  obtain ⟨fO, dO, GO, bO, mO⟩ := hO.ex
  obtain ⟨fN, dN, GN, bN, mN⟩ := hN.ex
  obtain ⟨fV, dV', GV, bV, mV⟩ := hV.ex
  obtain ⟨fR, dR, GR, bR, mR⟩ := hR.ex
  obtain ⟨fI, dI, GI, bI, kI, gI⟩ := hI.ex
  obtain ⟨fP, dP, GP, ⟨ds, vd, bP⟩, ⟨gP, kb⟩, mP⟩ := hP.ex
  obtain ⟨fG, dG, GG, bG, mG⟩ := hG.ex
  refine F.ok scPExec (fun vs H Q E h => by obtain ⟨_, _, _, _, _, _, _, _, _, _, _, _, _, _, rfl, _⟩ := h; rfl) (fun cdv A outer s H vs Q E hr h => ?_)
  obtain ⟨HB, L, labs, p, A', s, xs, me, fp, FA, vss, b, m', s', rfl, LU, sc, wf, nm, fr, ap, pg, hme, hrun, q⟩ := h
  have hu := hu_of hr
  refine ⟨_, pss_cons (ps_set (i := 3) scPExec.nd rfl (.inl rfl) (pe_ldisp (pv 1) pe_bl))
    (pss_cut (ps_while PassesOwn.never (pt_not (pt_val (pe_meth0 (E := E0) (pv 2) TF.cl mO GO hr bO .nil pass0)))
      (pss_cons (ps_set (i := 4) scPExec.nd rfl (.inl rfl) (pe_meth0 (E := E0) (pv 2) TF.cl mN GN hr bN .nil pass0))
      (pss_one (ps_if (pt_val (pe_call (E := E0) GI hr (by rfl) gI kI bI .nil pass0 (pa_cons (pv 4) pa_nil))) (pss_one (ps_expr (pe_meth0 (E := E0) (pv 2) TF.cl mR GR hr bR .nil passL)))
      (pss_one (ps_if (pt_cmpR op_eq (pe_ix ix_tup (pv 4) pe_int (fun _ _ => rfl)) pe_str (nomark _))
        (pss_cons (ps_dput hu (pe_dget hu (pe_fld (pv 0) rfl) (pv 1) (fun _ _ => rfl)) (pe_ix ix_tup (pv 4) pe_int (fun _ _ => rfl)) (pe_dget hu (pe_meth0 (E := E0) (pv 2) TF.cl mV GV hr bV .nil pass0) (pe_ix ix_tup (pv 4) pe_int (fun _ _ => rfl)) (fun _ _ => rfl)) rfl)
          (pss_one (ps_expr (pe_meth0 (E := E0) (pv 2) TF.cl mP GP hr bP vd passL))))
      (pss_one (ps_if (pt_cmpR op_eq (pe_ix ix_tup (pv 4) pe_int (fun _ _ => rfl)) pe_str (nomark _))
        (pss_one (ps_expr (methK0 (E := fun _ => E0) (pv 2) TF.cl mP GP hr kb (fun σ pins H s e s' I c => passL pins σ H s e s' I c) (pk_cons (pe_ifExp (pt_cmp (pc_lin (pe_ix ix_tup (pv 4) pe_int (fun _ _ => rfl)) (pv 3))) (pe_dget2 hu (pe_dget hu (pe_fld (pv 0) rfl) (pe_ix ix_tup (pv 4) pe_int (fun _ _ => rfl)) (fun _ _ => rfl)) (pe_ix ix_tup (pv 4) pe_int (fun _ _ => rfl)) (pe_un un_neg pe_int) ⟨rfl, rfl, rfl, rfl⟩) (pe_un un_neg pe_int)) pk_nil))))
      (pss_one (ps_if (PW.pt (pw_or (pt_cmpR op_eq (pe_ix ix_tup (pv 4) pe_int (fun _ _ => rfl)) pe_str (nomark _)) (pw_or1 (pt_not (pt_val (pe_meth (E := E0) (pv 0) T.cl mG GG hr bG .nil pass0 (pa_cons (pv 2) (pa_cons (pv 3) pa_nil)))))))) (pss_one (ps_ret pe_bl)) pss_nil))))))))))
    (pss_one (ps_ret pe_bl))), ?_⟩
  refine q_asgAny fun rd zrd => ⟨meV me, rfl, upd_same, meK me, me_leaf me, ?_⟩
  show tCut _ _ _ [some (.ref p), some (meV me), some (.ref fp), some (.ref rd), none] (upd (upd H rd (.dK [])) rd (LfO P w rd [(meK me, .bl true)]))
  have e0 : Ex H (upd (upd H rd (.dK [])) rd (LfO P w rd [(meK me, .bl true)])) := Ex.mut (Ex.new zrd) zrd
  have hrd0 : (upd (upd H rd (.dK [])) rd (LfO P w rd [(meK me, .bl true)])) rd = some (LfO P w rd [(meK me, .bl true)]) := upd_same
  have hBr : HB rd = none := fresh_back sc.bx zrd
  generalize upd (upd H rd (.dK [])) rd (LfO P w rd [(meK me, .bl true)]) = H0 at e0 hrd0 ⊢
  have kv0 : ∀ q, (valV [(meK me, V.bl true)] (.text q)).isSome = decide (q ∈ meL me) := fun q => by
    cases me with
    | none => rw [valV_neg (by exact fun e => nomatch e)]; rfl
    | some z =>
      by_cases e : z = q
      · rw [valV_pos (by show Leaf.text z = _; rw [e]), e]
        exact (decide_eq_true (List.mem_singleton.mpr rfl)).symm
      · rw [valV_neg (by show Leaf.text z ≠ _; exact fun y => e (Leaf.text.inj y))]
        exact (decide_eq_false (fun y => e (List.mem_singleton.mp y).symm)).symm
  have I0 : ExI P w C CL CF HB H0 L labs p A' xs me fp FA vss rd n (b, m', s') H0 0 0 .zero (meL me) s xs [(meK me, .bl true)] :=
    ⟨Nat.le_refl _, Nat.zero_le _, sc.ex e0, wf, nm, hme, fun q hq => by cases me with
      | none => exact nomatch hq
      | some z => rw [List.mem_singleton.mp hq]; exact hme z rfl, fr.ex e0, ap, hrd0, kv0, Nat.le_refl _, But.refl _, fun a ha => .inl ha, ⟨vss.length + 1, by omega, hrun⟩⟩
  have fin : ∀ {H' : Hp} {xs' : Exs} {pos' k' : Nat}, ScAt C CL HB H' L p A' s' xs' → FrameAt CF H' fp FA vss pos' m' k' → But (rd :: (ownS A' xs ++ own fp FA)) H0 H' → (∀ a ∈ ownS A' xs', a ∈ ownS A' xs ∨ H0 a = none) → Q (.bl b) H' := fun {H' xs' pos' k'} sc' fr' b' n' =>
    q xs' H' pos' k' sc' fr' (fun a o ha ho => b' a o (fun y => by
      rcases List.mem_cons.mp y with e | y
      · rw [e, zrd] at ho; cases ho
      · exact ha y) (e0 _ _ ho)) (fun a ha => (n' a ha).imp id (fun z => fresh_back e0 z))
  refine q_cut (M := fun σ H1 => ∃ y4 k m seen s1 xs1 kvs, σ = [some (.ref p), some (meV me), some (.ref fp), some (.ref rd), y4] ∧ ExI P w C CL CF HB H0 L labs p A' xs me fp FA vss rd n (b, m', s') H1 vss.length k m seen s1 xs1 kvs) ?_ ?_
  rotate_left
  · rintro σ H1 ⟨y4, k1, m, seen, s1, xs1, kvs, rfl, I⟩
    have e := I.over rfl
    cases e
    exact fin I.sc I.fr I.bt I.nw
  refine s_while (fun mm σ H1 => ∃ y4 pos k m seen s1 xs1 kvs, σ = [some (.ref p), some (meV me), some (.ref fp), some (.ref rd), y4] ∧ pos + mm = vss.length ∧ ExI P w C CL CF HB H0 L labs p A' xs me fp FA vss rd n (b, m', s') H1 pos k m seen s1 xs1 kvs) vss.length ⟨_, 0, 0, _, _, _, _, _, rfl, Nat.zero_add _, I0⟩ ?_
  rintro mm σ H1 ⟨y4, pos, k1, m, seen, s1, xs1, kvs, rfl, hmm, I⟩
  have l30 := pg.ln
  have hkp := I.kp
  have hpl := I.pl
  have few9 : vss.length ≤ 900 ∧ k1 ≤ 900 := ⟨by omega, by omega⟩
  refine ⟨!decide (pos = vss.length), et_not (et_B fun H2 e2 Q2 q2 => ⟨.ref fp, rfl, fp, FA.dx, _, rfl, e2 _ _ I.fr.ob, by rfl, fp, FA, vss, pos, m, k1, rfl, I.fr.ex e2, ⟨by omega, by omega⟩, fun H3 e3 => q2 H3 e3⟩), fun hb H2 e2 => ?_, fun hb H2 e2 => ?_⟩
  rotate_left
  · have : pos = vss.length := of_decide_eq_true (by cases hd : decide (pos = vss.length) with
      | true => rfl
      | false => rw [hd] at hb; cases hb)
    subst this
    exact ⟨y4, k1, m, seen, s1, xs1, kvs, rfl, I.ex e2⟩
  have hne : pos ≠ vss.length := fun e => by rw [decide_eq_true e] at hb; cases hb
  have hlt : pos < vss.length := by omega
  have I2 := I.ex e2
  clear I e2
  refine ⟨fun σ' H' => ∃ m2, m2 < mm ∧ ∃ y4 pos k m seen s1 xs1 kvs, σ' = [some (.ref p), some (meV me), some (.ref fp), some (.ref rd), y4] ∧ pos + m2 = vss.length ∧ ExI P w C CL CF HB H0 L labs p A' xs me fp FA vss rd n (b, m', s') H' pos k m seen s1 xs1 kvs, fun σ2 H2 h => h, ?_⟩
  refine q_asgAny ⟨.ref fp, rfl, fp, FA.dx, _, rfl, I2.fr.ob, by rfl, fp, FA, vss, pos, m, k1, rfl, I2.fr, ⟨by omega, by omega⟩, hpl, fun v2 H3 e3 hv => ?_⟩
  obtain ⟨t, us, rfl, hus, hT⟩ : ∃ t us, v2 = .ref t ∧ vss[pos]? = some us ∧ H3 t = some (.tup us) := by
    rcases hv with ⟨_, e⟩ | ⟨t, us', rfl, h1, h2⟩
    · omega
    · exact ⟨t, us', rfl, h1, h2⟩
  have I3 := I2.ex e3
  clear I2 e3 hv
  have hin := List.mem_of_getElem? hus
  have sv := pg.st us hin
  have nx : ∀ {H' : Hp} {d : Nat} {m2 : M4} {seen2 : List Str} {s2 : Sc} {xs2 : Exs} {kvs2 : LKs}, stepX (initS L n) me us m seen s1 = .go d m2 seen2 s2 → pos + d ≤ vss.length → ScAt C CL HB H' L p A' s2 xs2 → FrameAt CF H' fp FA vss (pos + d) m2 (k1 + 1) → H' rd = some (LfO P w rd kvs2) → (∀ q, (valV kvs2 (.text q)).isSome = decide (q ∈ seen2)) → kvs2.length ≤ k1 + 1 + 1 → But (rd :: (ownS A' xs1 ++ own fp FA)) H3 H' → (∀ a ∈ ownS A' xs2, a ∈ ownS A' xs1 ∨ H3 a = none) →
      ∃ m2, m2 < mm ∧ ∃ y4 pos k m seen s1 xs1 kvs, [some (.ref p), some (meV me), some (.ref fp), some (.ref rd), some (.ref t)] = [some (.ref p), some (meV me), some (.ref fp), some (.ref rd), y4] ∧ pos + m2 = vss.length ∧ ExI P w C CL CF HB H0 L labs p A' xs me fp FA vss rd n (b, m', s') H' pos k m seen s1 xs1 kvs := fun {H' d m2 seen2 s2 xs2 kvs2} hx hd sc2 fr2 rd2 kv2 kl2 b2 n2 => by
    obtain ⟨I4, d1⟩ := I3.step LU pg hus hx hd sc2 fr2 rd2 kv2 kl2 b2 n2
    exact ⟨vss.length - (pos + d), by omega, _, pos + d, _, _, _, _, _, _, rfl, by omega, I4⟩
  have ix : ∀ {H' : Hp} {j : Nat} {v : V}, H' t = some (.tup us) → us[j]? = some v → Ev (tOp (rIxT K) (tVar 4) (tC (.int (j : Int)))) [some (.ref p), some (meV me), some (.ref fp), some (.ref rd), some (.ref t)] H' v := fun hT h => ev_op (ev_var rfl) ev_c (rv_ixT (st_of hT) (atI_nat h))
  have eqT : ∀ {H' : Hp} {z y : Str}, H' t = some (.tup us) → us[0]? = some (.str z) → EvT (tTest (tOp rEq (tOp (rIxT K) (tVar 4) (tC (.int 0))) (tC (.str y)))) [some (.ref p), some (meV me), some (.ref fp), some (.ref rd), some (.ref t)] H' (decide (z = y)) := fun hT h => et_is (et_test (ev_op (ix (j := 0) hT h) ev_c (rv_eq rfl))) (decide_eq_decide.mpr ⟨fun e => V.str.inj e, fun e => by rw [e]⟩)
  -- the frame goes on alone
  have alone : ∀ {H5 H6 : Hp} {pos' k' : Nat} {m2 : M4}, Ex H3 H5 → FrameAt CF H6 fp FA vss pos' m2 k' → But (own fp FA) H5 H6 → ScAt C CL HB H6 L p A' s1 xs1 ∧ H6 rd = some (LfO P w rd kvs) ∧ But (rd :: (ownS A' xs1 ++ own fp FA)) H3 H6 := fun {H5 H6 pos' k' m2} e5 fr6 b6 =>
    ⟨I3.ap.sc (I3.sc.ex e5) b6, b6 _ _ I3.nrd (e5 _ _ I3.hr), (But.of e5).trans (b6.mono fun a ha => List.mem_cons_of_mem _ (List.mem_append_right _ ha))⟩
  refine et_B (ev_call (ea_cons (ev_var rfl) ea_nil) (spv_D (d := .tuple (us.map flD)) (.tup hT (dtAll_flat (stepV_flat sv))) (stepV_sm sv))) H3 (Ex.refl H3) _ fun H4 e4 => ?_
  have fr4 := I3.fr.ex e4
  cases hpn : isPlain (.tuple (us.map flD)) with
  | true =>
    have pl := plain_of sv hpn
    refine ⟨.ref fp, rfl, fp, FA.dx, _, rfl, fr4.ob, by rfl, fp, FA, vss, pos, m, k1, rfl, fr4, few9, hpl, pg.st, fun us' H5 hus' pl' fr5 b5 => ?_, fun h => ?_⟩
    · rw [hus] at hus'
      cases hus'
      obtain ⟨a1, a2, a3⟩ := alone e4 fr5 b5
      exact nx (stepX_plain pl) (pg.ft pos us m hus) a1 fr5 a2 I3.kv (by have := I3.kl; omega) a3 (fun a ha => .inl ha)
    · unfold nextD at h
      rw [hus] at h
      have h : isPlain (.tuple (us.map flD)) = false := h
      rw [hpn] at h
      cases h
  | false =>
    have ov := other_of sv hpn
    have hT4 := e4 _ _ hT
    rw [if_neg (show ¬ (false = true) by decide)]
    have key : (∃ l x, us = [.str "export", .str l, .str x] ∧ isVar (.str x) = true) ∨ (∃ x md l, us = [.str "read", .str x, .str md, .str l]) ∨ (∃ md, NeedV us md) ∨ us = [.str "fail"] := by
      cases ov with
      | @exp l x =>
        refine .inl ⟨l, x, rfl, ?_⟩
        have z : isStep (.tuple (.str "export" :: [.str l, .str x])) = true := sv.step
        rw [isStep_eq sh_export, items2, it_var] at z
        exact (Bool.and_eq_true_iff.mp (Bool.and_eq_true_iff.mp z).2).2
      | @read x md l h => exact .inr (.inl ⟨x, md, l, rfl⟩)
      | @need md => exact .inr (.inr (.inl ⟨md, .need⟩))
      | @try_ md x h => exact .inr (.inr (.inl ⟨md, .try_ h⟩))
      | fail => exact .inr (.inr (.inr rfl))
    have I4 := I3.ex e4
    rcases key with ⟨l, x, rfl, hx⟩ | ⟨x, md, l, rfl⟩ | ⟨md, nv⟩ | rfl
    · -- export
      obtain ⟨z, rfl⟩ : ∃ z, me = some z := by
        cases me with
        | some z => exact ⟨z, rfl⟩
        | none => exact absurd rfl (pg.ne rfl _ hin l x)
      refine (eqT hT4 rfl) H4 (Ex.refl H4) _ fun H5 e5 => ?_
      rw [if_pos (decide_eq_true rfl)]
      have I5 := I4.ex e5
      obtain ⟨ae, hae⟩ : ∃ ae, getA xs1 z = some ae := getA_some (by
        have hz := I5.mx z rfl
        rw [← I5.sc.exs] at hz
        unfold keysA exs0 at hz
        rw [List.map_map] at hz
        exact hz)
      obtain ⟨a, e⟩ := ae
      refine ⟨.ref fp, rfl, fp, FA.dx, _, rfl, I5.fr.ob, by rfl, fp, FA, vss, pos, m, k1, rfl, I5.fr, fun d H6 zd e6 hd => ?_⟩
      have e46 := e5.trans e6
      refine ix (j := 2) (e46 _ _ hT4) rfl H6 (Ex.refl H6) _ fun H7 e7 => ⟨d, .int (m.get x), rfl, by
        have y := DGet.k (k := .inr x) (e7 _ _ hd)
        rw [m4_val m hx] at y
        exact y, ?_⟩
      have I7 := I5.ex (e6.trans e7)
      refine ⟨.ref p, rfl, p, C, A'.dx, _, .ref A'.aE, rfl, I7.sc.ob, T.cl, T.nE, flP_ex A', .str z, rfl, A'.aE, .ref a, rfl, by
        have y := DGet.k (k := .inr z) I7.sc.exd
        unfold kvE at y
        rw [valV_mapA (fun r : Addr × Ints => V.ref r.1), hae] at y
        exact y, ?_⟩
      refine ix (j := 1) (e7 _ _ (e46 _ _ hT4)) rfl H7 (Ex.refl H7) _ fun H8 e8 => ?_
      have I8 := I7.ex e8
      have hi8 : H8 a = some (.dK (kvI e)) := I8.sc.ini _ (getA_mem hae)
      have le : e.length ≤ 2000 := (LU.few I8.wf I8.nm).lb (z, e) (getA_mem (by
        rw [← I8.sc.exs]
        unfold exs0
        rw [getA_map (fun r : Addr × Ints => r.2), hae]
        rfl))
      refine ⟨a, upd H8 a (.dK (kvI (putA e l (m.get x)))), rfl, .inl ⟨kvI e, .inr l, hi8, rfl, sz_lt (by show (List.map _ e).length < 100000; rw [List.length_map]; omega), by unfold kvI; rw [putK_map V.int]⟩, ?_⟩
      obtain ⟨sc9, eo⟩ := I8.sc.export I8.wf (l := l) (i := m.get x) hae
      have io : a ∈ ownS A' xs1 := in_I (getA_mem hae)
      have b9 : But (ownS A' xs1) H8 (upd H8 a (.dK (kvI (putA e l (m.get x))))) := (But.refl H8).upd io
      generalize upd H8 a (.dK (kvI (putA e l (m.get x)))) = H9 at sc9 b9 ⊢
      have fr9 := I8.ap.fr I8.sc I8.fr b9
      have hrd9 : H9 rd = some (LfO P w rd kvs) := b9 _ _ (I8.sc.no_ext I8.hr) I8.hr
      refine ⟨.ref fp, rfl, fp, FA.dx, _, rfl, fr9.ob, by rfl, fp, .non, .none, FA, vss, pos, m, k1, rfl, .non, rfl, fr9, few9, hpl, pg.st, fun us' H10 hus' ov' rv' fr10 b10 => ?_, fun h => pass_ok hus ov h, fun us' H10 hus' ov' rv' e10 => ?_⟩
      · rw [hus] at hus'
        cases hus'
        have ap9 : FrAp HB p A' (putA xs1 z (a, putA e l (m.get x))) fp FA := ⟨fun c hc => by rw [eo]; exact I8.ap.f1 c hc, I8.ap.f2⟩
        refine nx stepX_exp (by omega) (ap9.sc sc9 b10) ?_ (b10 _ _ I8.nrd hrd9) I8.kv (by have := I8.kl; omega) ?_ (fun c hc => .inl (by rw [eo] at hc; exact hc))
        · unfold memoO at fr10
          rw [given_exp] at fr10
          exact fr10
        · exact ((But.of (e4.trans (e46.trans (e7.trans e8)))).trans (b9.mono fun c hc => List.mem_cons_of_mem _ (List.mem_append_left _ hc))).trans (b10.mono fun c hc => List.mem_cons_of_mem _ (List.mem_append_right _ hc))
      · rw [hus] at hus'
        cases hus'
        unfold rightV at rv'
        rw [given_exp] at rv'
        exact nomatch rv'
    · -- read
      refine (eqT hT4 rfl) H4 (Ex.refl H4) _ fun H5 e5 => ?_
      rw [if_neg (by decide +kernel)]
      refine (eqT (e5 _ _ hT4) rfl) H5 (Ex.refl H5) _ fun H6 e6 => ?_
      rw [if_pos (decide_eq_true rfl)]
      have I6 := (I4.ex e5).ex e6
      have hT6 := e6 _ _ (e5 _ _ hT4)
      refine ⟨.ref fp, rfl, fp, FA.dx, _, rfl, I6.fr.ob, by rfl, ?_⟩
      have evv : ∀ (Q3 : VK), (∀ H', Ex H6 H' → Q3 (.int (readV s1 seen md l)) H') → tIf (tB (tLIn P w (tOp (rIxT K) (tVar 4) (tC (.int 2))) (tVar 3))) (tDGet2 (tDGet (tFld K (tVar 0) "exported") (tOp (rIxT K) (tVar 4) (tC (.int 2)))) (tOp (rIxT K) (tVar 4) (tC (.int 3))) (tUn (rU fun i => V.int (-i)) (tC (.int 1)))) (tUn (rU fun i => V.int (-i)) (tC (.int 1))) [some (.ref p), some (meV me), some (.ref fp), some (.ref rd), some (.ref t)] H6 Q3 := fun Q3 q3 => by
        refine ix (j := 2) hT6 rfl H6 (Ex.refl H6) _ fun Ha ea => ⟨.ref rd, rfl, rd, kvs, .text md, rfl, ea _ _ I6.hr, rfl, _, rfl, ?_⟩
        rw [I6.kv md]
        dsimp only
        by_cases hs : md ∈ seen
        · rw [if_pos (decide_eq_true hs)]
          have Ia := I6.ex ea
          obtain ⟨ae, hae⟩ : ∃ ae, getA xs1 md = some ae := getA_some (by
            have hz := Ia.sn md hs
            rw [← Ia.sc.exs] at hz
            unfold keysA exs0 at hz
            rw [List.map_map] at hz
            exact hz)
          obtain ⟨a, e⟩ := ae
          refine ⟨.ref p, rfl, p, C, A'.dx, _, .ref A'.aE, rfl, Ia.sc.ob, T.cl, T.nE, flP_ex A', ?_⟩
          refine ix (j := 2) (ea _ _ hT6) rfl Ha (Ex.refl Ha) _ fun Hb eb => ⟨A'.aE, .ref a, rfl, by
            have y := DGet.k (k := .inr md) (eb _ _ Ia.sc.exd)
            unfold kvE at y
            rw [valV_mapA (fun r : Addr × Ints => V.ref r.1), hae] at y
            exact y, a, rfl, ?_⟩
          have hab : Hb a = some (.dK (kvI e)) := eb _ _ (Ia.sc.ini _ (getA_mem hae))
          refine ⟨.inl ⟨_, .inl hab⟩, ?_⟩
          refine ix (j := 3) (eb _ _ (ea _ _ hT6)) rfl Hb (Ex.refl Hb) _ fun Hc ec => ⟨1, rfl, (getA e l).map V.int, by
            have y := DGet.k (k := .inr l) (ec _ _ hab)
            unfold kvI at y
            rw [valV_mapA V.int] at y
            exact y, ?_⟩
          have ge : getA s1.ex md = some e := by
            rw [← Ia.sc.exs]
            unfold exs0
            rw [getA_map (fun r : Addr × Ints => r.2), hae]
            rfl
          have val : ((getA e l).map V.int).getD (.int (-1)) = .int (readV s1 seen md l) := by
            unfold readV
            rw [if_pos hs, ge]
            show _ = V.int ((getA e l).getD (-1))
            cases getA e l <;> rfl
          have y := q3 Hc (ea.trans (eb.trans ec))
          rw [← val] at y
          exact y
        · rw [if_neg (by rw [decide_eq_false hs]; decide)]
          refine ⟨1, rfl, ?_⟩
          have y := q3 Ha ea
          unfold readV at y
          rw [if_neg hs] at y
          exact y
      refine evv _ fun H7 e7 => ?_
      have I7 := I6.ex e7
      have e37 := ((e4.trans e5).trans e6).trans e7
      have rv : rightV [.str "read", .str x, .str md, .str l] (.int (readV s1 seen md l)) = true := rfl
      refine ⟨rfl, fp, .int (readV s1 seen md l), .int (readV s1 seen md l), FA, vss, pos, m, k1, rfl, .int _, rfl, I7.fr, few9, hpl, pg.st, fun us' H10 hus' ov' rv' fr10 b10 => ?_, fun h => pass_ok hus ov h, fun us' H10 hus' ov' rv' e10 => ?_⟩
      · rw [hus] at hus'
        cases hus'
        obtain ⟨a1, a2, a3⟩ := alone e37 fr10 b10
        exact nx stepX_read (by omega) a1 fr10 a2 I7.kv (by have := I7.kl; omega) a3 (fun c hc => .inl hc)
      · rw [hus] at hus'
        cases hus'
        rw [rv] at rv'
        cases rv'
    · -- need, try
      have hu0 := nv.at0
      have nz : ∀ {y : Str}, ¬ y = "try" → ¬ y = "need" → ¬ decide ((if isTryV us = true then ("try" : Str) else "need") = y) = true := fun {y} h1 h2 h => by
        have h := of_decide_eq_true h
        split at h
        · exact h1 h.symm
        · exact h2 h.symm
      have hmd : md ∈ L.map (·.1) := by
        have mi := pg.kn.mi us hin
        cases nv with
        | need => exact need_in mi
        | try_ h => exact try_in mi
      refine (eqT hT4 hu0) H4 (Ex.refl H4) _ fun H5 e5 => ?_
      rw [if_neg (nz (by decide +kernel) (by decide +kernel))]
      refine (eqT (e5 _ _ hT4) hu0) H5 (Ex.refl H5) _ fun H6 e6 => ?_
      rw [if_neg (nz (by decide +kernel) (by decide +kernel))]
      refine (eqT (e6 _ _ (e5 _ _ hT4)) hu0) H6 (Ex.refl H6) _ fun H7 e7 => ?_
      rw [if_neg (nz (by decide +kernel) (by decide +kernel))]
      have I7 := ((I4.ex e5).ex e6).ex e7
      have e37 := ((e4.trans e5).trans e6).trans e7
      obtain ⟨b2, s2, hini⟩ := I7.ini hus nv
      refine ⟨.ref p, rfl, p, A'.dx, _, rfl, I7.sc.ob, by rfl, .ref fp, rfl, .ref rd, rfl, HB, L, labs, p, A', s1, xs1, fp, FA, vss, pos, m, k1, rd, kvs, us, md, b2, s2, rfl, LU, I7.sc, I7.wf, I7.nm, I7.fr, I7.hr, by have := I7.kl; omega, I7.ap, hBr, few9, pg.st, hus, nv, hmd, hini, fun xs2 H8 sc8 fr8 rd8 b8 n8 => ⟨_, rfl, ?_⟩⟩
      cases hc : (b2 || isTryV us) with
      | true =>
        have pf : pastF us b2 pos k1 m = (pos + 1, k1 + 1, memoO us (b01 b2) m) := if_pos hc
        rw [pf] at fr8
        refine nx (past_go nv hini hc) (by omega) sc8 fr8 rd8 (fun y => ?_) ?_ ((But.of e37).trans b8) (fun c hc => (n8 c hc).imp id (fun z => fresh_back e37 z))
        · cases b2 with
          | false => exact I7.kv y
          | true =>
            show (valV (putK kvs (.text md) (.bl true)) (.text y)).isSome = decide (y ∈ seen ++ [md])
            rw [valV_put]
            by_cases e : y = md
            · subst e
              rw [if_pos rfl]
              exact (decide_eq_true (List.mem_append_right _ (List.mem_singleton.mpr rfl))).symm
            · rw [if_neg (fun z => e (Leaf.text.inj z)), I7.kv y]
              refine decide_eq_decide.mpr ⟨fun h => List.mem_append_left _ h, fun h => ?_⟩
              rcases List.mem_append.mp h with h | h
              · exact h
              · exact absurd (List.mem_singleton.mp h) e
        · have := I7.kl
          have := length_putK kvs (.text md) (V.bl true)
          split <;> omega
      | false =>
        have pf : pastF us b2 pos k1 m = (pos, k1, m) := if_neg (by rw [hc]; decide)
        rw [pf] at fr8
        have es := I7.stop hus (past_halt nv hini hc)
        cases es
        exact fin sc8 fr8 (I7.bts b8) (I7.new n8)
    · -- fail
      refine (eqT hT4 rfl) H4 (Ex.refl H4) _ fun H5 e5 => ?_
      rw [if_neg (by decide +kernel)]
      refine (eqT (e5 _ _ hT4) rfl) H5 (Ex.refl H5) _ fun H6 e6 => ?_
      rw [if_neg (by decide +kernel)]
      refine (eqT (e6 _ _ (e5 _ _ hT4)) rfl) H6 (Ex.refl H6) _ fun H7 e7 => ?_
      rw [if_pos (decide_eq_true rfl)]
      have I7 := ((I4.ex e5).ex e6).ex e7
      have es := I7.stop hus stepX_fail
      cases es
      exact fin I7.sc I7.fr I7.bt I7.nw
end
end Cr
/-! plain runs: initialize, and all three at any depth -/
namespace Cr
open PySem PySem.Spec PyProof.Rows L2 Evl
abbrev sPIni : Stmt := inClass (topS 39) 1
abbrev nPIni : List Str := ["self", "module", "is_ended"]
theorem scPIni : FnScope nPIni ["self", "module"] (defScope sPIni) := ⟨rfl, rfl, rfl, by decide +kernel, rfl, by decide +kernel, by decide +kernel⟩
theorem stepsD_inj2 : ∀ {a b : List (List V)}, (∀ us ∈ a, StepV us) → (∀ us ∈ b, StepV us) → stepsD a = stepsD b → a = b
  | [], [], _, _, _ => rfl
  | u :: a, v :: b, ha, hb, e => by
    have e' : PyData.tuple (u.map flD) :: stepsD a = PyData.tuple (v.map flD) :: stepsD b := e
    obtain ⟨e1, e2⟩ := List.cons.inj e'
    have e3 := PyData.tuple.inj e1
    have one : ∀ {v : V}, bare8 v = true → dV (flD v) = v := fun {v} h => by
      cases v with
      | int i => rfl
      | str x => rfl
      | _ => exact nomatch h
    have back : ∀ {us : List V}, us.all bare8 = true → (us.map flD).map dV = us := fun {us} h => by
      rw [List.map_map]
      exact (List.map_congr_left (g := id) fun v hv => one (List.all_eq_true.mp h v hv)).trans (List.map_id _)
    have : u = v := by
      rw [← back (ha u List.mem_cons_self).bare, ← back (hb v List.mem_cons_self).bare, e3]
    rw [this, stepsD_inj2 (fun us h => ha us (List.mem_cons_of_mem _ h)) (fun us h => hb us (List.mem_cons_of_mem _ h)) e2]
theorem strs_in {z : Str} {us : List Str} : inV (.str z) (us.map V.str) = decide (z ∈ us) := by
  unfold inV
  rw [List.any_map, Bool.eq_iff_iff, List.any_eq_true, decide_eq_true_eq]
  constructor
  · rintro ⟨y, hy, e⟩
    have e : (y == z) = true := e
    rw [← beq_iff_eq.mp e]
    exact hy
  · intro h
    exact ⟨z, h, by show (z == z) = true; exact beq_self_eq_true z⟩
section
variable {l l2 : List Addr} {H H1 H2 : Hp}
theorem btO (b1 : But l H H1) (b2 : But l2 H1 H2) (h : ∀ c ∈ l2, c ∈ l ∨ H c = none) : But l H H2 := fun c o hc ho => b2 c o (fun y => by
  rcases h c y with z | z
  · exact hc z
  · rw [ho] at z; cases z) (b1 c o hc ho)
theorem noO {c : Addr} (b1 : But l H H1) (h : H1 c = none) : c ∈ l ∨ H c = none := by
  cases hc : H c with
  | none => exact .inr rfl
  | some o =>
    by_cases hl : c ∈ l
    · exact .inl hl
    · rw [b1 c o hl hc] at h; cases h
end
/-- the frame of an initializer -/
theorem prog_due {p : Prog} (h : ProgV p) : dueOf none false (.list (p.map PyData.tuple)) = none := due_good (by rw [List.length_map]; exact h.len) fun i x hx => by
  rw [List.getElem?_map] at hx
  obtain ⟨ds, h1, h2⟩ := Option.map_eq_some_iff.mp hx
  rw [← h2, List.length_map]
  exact h.bf i ds h1
theorem prog_smL {p : Prog} (h : ProgV p) : sm (.list (p.map PyData.tuple)) = true := by
  rw [← vsP_steps h, sm]
  have go : ∀ {vss : List (List V)}, (∀ us ∈ vss, StepV us) → smAll (stepsD vss) = true := by
    intro vss
    induction vss with
    | nil => exact fun _ => rfl
    | cons u r ih =>
      intro hh
      show smAll (.tuple (u.map flD) :: stepsD r) = true
      rw [smAll, stepV_sm (hh u List.mem_cons_self), ih fun us hu => hh us (List.mem_cons_of_mem _ hu)]
      rfl
  rw [go (vsP_v h), Bool.and_true]
  refine decide_eq_true ?_
  unfold stepsD
  rw [List.length_map, vsP_len]
  have := h.len
  omega
theorem pg_of {labs : List Str} {L : Lib} (u : LibU labs L) (md : Str) : PgU labs L (some md) (vsP (progL L md)) := by
  have pv := u.n.r.pv md
  exact ⟨by rw [vsP_len]; exact pv.len, vsP_v pv, vsP_fits pv, u.n.kn md, fun e => nomatch e⟩
section
variable {P : Program} {w : World} {K : PySem.W.Frag} {mg : Str → Option Value} {base : Heap}
theorem ok_pini {f C CL CF CE : Addr} {fd : FuncData} {k n : Nat} (F : Fun K "initialize" "PlainRun.initialize" sPIni f fd) (B : Blt mg) (T : PrC K mg C) (TF : FrC K mg CF) (TL : LbC K mg CL) (hk : 1 ≤ k)
    (hE : HasM P w K mg base CX0 k C "execute" ["self", "module", "frame"] (spExec C CL CF n)) (hL : HasM P w K mg base CX0 k CL "initializer" ["self", "module"] (spLIni CL)) (hF : MkF P w K mg base (k - 1) CF CE) :
    FnOk P w K mg base CX0 (k + 1) f fd ["self", "module"] (spPIni C CL (n + 1)) := by
  obtain ⟨fE, dE, GE, bE, mE⟩ := hE.ex
  obtain ⟨fL, dL, GL, bL, mL⟩ := hL.ex
  obtain ⟨fF, dF, MF, GF, bF⟩ := hF.ex
  refine F.ok scPIni (fun vs H Q E h => by obtain ⟨_, _, _, _, _, _, _, _, _, _, rfl, _⟩ := h; rfl) (fun cdv A outer s H vs Q E hr h => ?_)
  obtain ⟨HB, L, labs, p, A', s, xs, md, b, s', rfl, LU, sc, wf, nm, hmd, hini, q⟩ := h
  have hu := hu_of hr
  have hrF := hr.mono (j := k - 1 + 1) (by omega)
  refine ⟨_, pss_cons (ps_if (pt_cmpR op_in_seq (pv 1) (pe_fld (pv 0) rfl) (by rfl)) pss_dead' pss_nil)
    (pss_cut (ps_if (pt_cmp (pc_dnotin hu (pv 1) (pe_fld (pv 0) rfl)))
      (pss_cons (ps_dput hu (pe_fld (pv 0) rfl) (pv 1) pe_dnewK rfl)
      (pss_cons (ps_expr (pe_bm PySem.F.plainAttrs_list PySem.F.slot_list_append PySem.F.type_list_append mt_append (pe_fld (pv 0) rfl) (pa_cons (pv 1) pa_nil)))
      (pss_cons (ps_set (i := 2) scPIni.nd rfl (.inl rfl) (pe_meth (E := E0) (pv 0) T.cl mE GE hr bE .nil pass0 (pa_cons (pv 1) (pa_cons (pe_make (E := E0) MF GF hrF (by rfl) TF.at_ bF .nil passL (pa_cons (pe_meth (E := E0) (pe_fld (pv 0) rfl) TL.cl mL GL hr bL .nil pass0 (pa_cons (pv 1) pa_nil)) pa_nil)) pa_nil))))
      (pss_cons (ps_expr (pe_bm0 PySem.F.plainAttrs_list PySem.F.slot_list_pop PySem.F.type_list_pop mt_pop (pe_fld (pv 0) rfl)))
      (pss_cons (ps_dput hu (pe_fld (pv 0) rfl) (pv 1) (pe_ifExp (pt_val (pv 2)) pe_str pe_str) rfl)
      (pss_one (ps_if (pt_not (pt_val (pv 2))) (pss_one (ps_dput hu (pe_fld (pv 0) rfl) (pv 1) pe_dnewK rfl)) pss_nil))))))) pss_nil)
    (pss_one (ps_ret (pe_cmpR op_eq (pe_dget hu (pe_fld (pv 0) rfl) (pv 1) (fun _ _ => rfl)) pe_str (nomark _))))), ?_⟩
  rw [init_succ] at hini
  have hop : md ∉ s.op := fun h => by rw [if_pos h] at hini; cases hini
  rw [if_neg hop] at hini
  have fw := LU.few wf nm
  refine q_when (b := false) (et_is (et_test (ev_op (ev_var rfl) (ev_fld (ev_var rfl) sc.ob T.cl T.nS (flP_op A')) (rv_inL (sq_of sc.op) rfl (by rw [List.all_map]; exact List.all_eq_true.mpr fun _ _ => rfl)))) (by
    show inV (.str md) (s.op.map V.str) = false
    rw [strs_in]
    exact decide_eq_false hop)) (fun z => nomatch z) (fun _ H1 e1 => ?_)
  have sc1 := sc.ex e1
  refine q_cut (M := fun σ H' => ∃ y2 xs', σ = [some (.ref p), some (.str md), y2] ∧ ScAt C CL HB H' L p A' s' xs' ∧ But (ownS A' xs) H H' ∧ (∀ a ∈ ownS A' xs', a ∈ ownS A' xs ∨ H a = none) ∧ getA s'.rs md = some b) ?_ ?_
  rotate_left
  · rintro σ H' ⟨y2, xs', rfl, sc', b', n', hg⟩
    refine ⟨.ref p, rfl, p, C, A'.dx, _, .ref A'.aR, rfl, sc'.ob, T.cl, T.nR, flP_rs A', .str md, rfl, A'.aR, rdV b, rfl, by
      have y := DGet.k (k := .inr md) sc'.rs
      unfold kvR at y
      rw [valV_mapA rdV, hg] at y
      exact y, rfl, ?_⟩
    have : decide (rdV b = .str "ready") = b := by
      cases b with
      | true => exact decide_eq_true rfl
      | false => exact decide_eq_false (fun e => absurd (V.str.inj e) (by decide +kernel))
    rw [this]
    exact q xs' H' sc' b' n'
  refine ⟨.str md, rfl, .ref p, rfl, p, C, A'.dx, _, .ref A'.aR, rfl, sc1.ob, T.cl, T.nR, flP_rs A', A'.aR, (getA s.rs md).map rdV, rfl, by
    have y := DGet.k (k := .inr md) sc1.rs
    unfold kvR at y
    rw [valV_mapA rdV] at y
    exact y, _, rfl, ?_⟩
  cases hg : getA s.rs md with
  | some c =>
    rw [hg] at hini
    cases hini
    exact ⟨_, xs, rfl, sc1, But.of e1, fun a ha => .inl ha, hg⟩
  | none =>
    rw [hg] at hini
    dsimp only at hini
    obtain ⟨e, m2, s2, hx, hb, hs'⟩ : ∃ e m2 s2, execS (initS L n) (some md) (vsP (progL L md)) ((progL L md).length + 1) 0 .zero [md] ⟨s.op ++ [md], s.rs, putA s.ex md []⟩ = .ok (e, m2, s2) ∧ b = e ∧ s' = ⟨s2.op.dropLast, putA s2.rs md e, if e then s2.ex else putA s2.ex md []⟩ := by
      cases hx : execS (initS L n) (some md) (vsP (progL L md)) ((progL L md).length + 1) 0 .zero [md] ⟨s.op ++ [md], s.rs, putA s.ex md []⟩ with
      | error c => rw [hx] at hini; cases hini
      | ok r =>
        rw [hx] at hini
        cases hini
        exact ⟨_, _, _, rfl, rfl, rfl⟩
    subst hb
    clear hini
    -- its exports, none yet
    rw [if_pos (show (!((none : Option Bool).map rdV).isSome) = true from rfl)]
    intro a za
    have ea : Ex H1 (upd H1 a (.dK [])) := Ex.new za
    have na : a ∉ ownS A' xs := fun z => by
      obtain ⟨o, h1, _⟩ := sc1.own_some a z
      rw [za] at h1
      cases h1
    obtain ⟨sc2, in2⟩ := (sc1.ex ea).newE wf (md := md) upd_same na (fresh_back sc1.bx za)
    refine ⟨.ref p, rfl, p, C, A'.dx, _, .ref A'.aE, rfl, (sc1.ex ea).ob, T.cl, T.nE, flP_ex A', .str md, rfl, A'.aE, _, rfl, .inl ⟨kvE xs, .inr md, (sc1.ex ea).exd, rfl, sz_lt (by
      have := fw.ex
      rw [← sc.exs] at this
      unfold exs0 at this
      rw [List.length_map] at this
      show (List.map _ xs).length < 100000
      rw [List.length_map]
      omega), rfl⟩, ?_⟩
    have eE : (HO.dK (putK (kvE xs) (.inr md) (.ref a))) = .dK (kvE (putA xs md (a, []))) := by
      unfold kvE
      rw [putK_map (fun r : Addr × Ints => V.ref r.1) xs md (a, [])]
    rw [eE]
    have b2 : But (ownS A' xs) H (upd (upd H1 a (.dK [])) A'.aE (.dK (kvE (putA xs md (a, []))))) := (But.of (e1.trans ea)).upd in_E
    have za0 : H a = none := fresh_back e1 za
    have o2 : ∀ c ∈ ownS A' (putA xs md (a, [])), c ∈ ownS A' xs ∨ H c = none := fun c hc => (in2 c hc).symm.imp id (fun z => by rw [z]; exact za0)
    generalize upd (upd H1 a (.dK [])) A'.aE (.dK (kvE (putA xs md (a, [])))) = H2 at sc2 b2 ⊢
    -- it was started
    refine q_app (l := A'.aO) (xs := s.op.map V.str) (v := .str md) sc2.op (ev_fld (ev_var rfl) sc2.ob T.cl T.nS (flP_op A')) (ev_var rfl) (by rw [List.length_map]; have := fw.op; omega) fun H3 e3 => ?_
    have eO : (s.op.map V.str ++ [V.str md]) = (s.op ++ [md]).map V.str := by rw [List.map_append]; rfl
    rw [eO]
    have sc4 := (sc2.ex e3).setO (s.op ++ [md])
    have b4 : But (ownS A' xs) H (upd H3 A'.aO (.lst ((s.op ++ [md]).map V.str))) := (b2.trans (But.of e3)).upd in_O
    generalize upd H3 A'.aO (.lst ((s.op ++ [md]).map V.str)) = H4 at sc4 b4 ⊢
    -- its program
    obtain ⟨hrow, hnm⟩ := LU.row hmd
    have lbA := sc4.lbH
    obtain ⟨dxl, dd, kvsl, o1, _, _⟩ := lbA.ob
    have pv := LU.n.r.pv md
    refine q_asgAny ⟨.ref p, rfl, p, A'.dx, _, rfl, sc4.ob, by rfl, .str md, rfl, .ref p, rfl, p, C, A'.dx, _, .ref A'.lib, rfl, sc4.ob, T.cl, T.nL, flP_lib A', A'.lib, dxl, _, rfl, o1, by rfl, .str md, rfl, A'.lib, md, L, progL L md, rfl, lbA, hnm, hrow, fun l zs H5 zl e5 hl hzs => fun x dx zx zdx nex => ?_⟩
    have e6 : Ex H5 (upd (upd H5 dx (.own x)) x (.ins CF dx [])) := fun c o h => by
      rw [upd_ne (fun e => by rw [e, zx] at h; cases h), upd_ne (fun e => by rw [e, zdx] at h; cases h)]
      exact h
    have hx6 : (upd (upd H5 dx (.own x)) x (.ins CF dx [])) x = some (.ins CF dx []) := upd_same
    generalize upd (upd H5 dx (.own x)) x (.ins CF dx []) = H6 at e6 hx6 ⊢
    have e46 := e5.trans e6
    refine ⟨x, dx, .ref l, .list ((progL L md).map PyData.tuple), rfl, hx6, .lst (e6 _ _ hl) (DtAll.ex e6 hzs), prog_smL pv, fun vss FA H7 he hst hl30 hdue fr7 zS zM zV b7 => ?_, fun i hi => by rw [prog_due pv] at hi; cases hi⟩
    have ev : vss = vsP (progL L md) := by
      refine stepsD_inj2 hst (vsP_v pv) ?_
      rw [vsP_steps pv]
      exact (PyData.list.inj he).symm
    subst ev
    have sc6 := sc4.ex e46
    have zx4 : H4 x = none := fresh_back e5 zx
    have nx : x ∉ p :: ownS A' (putA xs md (a, [])) := fun z => by
      rcases List.mem_cons.mp z with e | z
      · rw [e, sc4.ob] at zx4; cases zx4
      · obtain ⟨o, h1, _⟩ := sc4.own_some x z
        rw [zx4] at h1
        cases h1
    have nn : ∀ {c : Addr}, H6 c = none → c ∉ p :: ownS A' (putA xs md (a, [])) := fun {c} hc z => by
      rcases List.mem_cons.mp z with e | z
      · rw [e, sc6.ob] at hc; cases hc
      · obtain ⟨o, h1, _⟩ := sc6.own_some c z
        rw [hc] at h1
        cases h1
    have hBx : HB x = none := fresh_back sc4.bx zx4
    have sc7 := sc6.but b7 (fun z => nx (by rw [← List.mem_singleton.mp z]; exact List.mem_cons_self)) (fun c hc z => nx (by rw [← List.mem_singleton.mp z]; exact List.mem_cons_of_mem _ hc)) (fun c hc => by rw [List.mem_singleton.mp hc]; exact hBx)
    have ap7 : FrAp HB p A' (putA xs md (a, [])) x FA := by
      refine ⟨fun c hc => ?_, fun c hc => ?_⟩
      · simp only [List.mem_cons, List.not_mem_nil, or_false] at hc
        rcases hc with rfl | rfl | rfl | rfl
        · exact nx
        · exact nn zS
        · exact nn zM
        · exact nn zV
      · simp only [own, List.mem_cons, List.not_mem_nil, or_false] at hc
        rcases hc with rfl | rfl | rfl
        · exact hBx
        · exact fresh_back sc6.bx zM
        · exact fresh_back sc6.bx zV
    have o7 : ∀ c ∈ own x FA, c ∈ ownS A' xs ∨ H c = none := fun c hc => by
      have : H4 c = none := by
        simp only [own, List.mem_cons, List.not_mem_nil, or_false] at hc
        rcases hc with rfl | rfl | rfl
        · exact zx4
        · exact fresh_back e46 zM
        · exact fresh_back e46 zV
      exact noO b4 this
    have b47 : But (ownS A' xs) H H7 := btO (b4.trans (But.of e46)) b7 fun c hc => o7 c (by rw [List.mem_singleton.mp hc]; exact List.mem_cons_self)
    have wfB := wf_begin (md := md) wf
    have nmB := begin_nm nm hmd hop
    have hmk : ∀ q, (some md : Option Str) = some q → q ∈ keysA (putA s.ex md ([] : Ints)) := fun q hq => by cases hq; exact putA_mem.mpr (.inl rfl)
    refine ⟨rfl, HB, L, labs, p, A', ⟨s.op ++ [md], s.rs, putA s.ex md []⟩, putA xs md (a, []), some md, x, FA, vsP (progL L md), b, m2, s2, rfl, LU, sc7, wfB, nmB, fr7, ap7, pg_of LU md, hmk, by rw [vsP_len]; exact hx, fun xs3 H8 pos' k' sc8 fr8 b8 n8 => ?_⟩
    have b48 : But (ownS A' xs) H H8 := btO b47 b8 fun c hc => by
      rcases List.mem_append.mp hc with z | z
      · exact o2 c z
      · exact o7 c z
    have n48 : ∀ c ∈ ownS A' xs3, c ∈ ownS A' xs ∨ H c = none := fun c hc => by
      rcases n8 c hc with z | z
      · exact o2 c z
      · exact noO b47 z
    obtain ⟨gr, w2⟩ := exec_gr (init_good LU.n.r n) (LU.n.kn md).po _ _ wfB hmk (fun q hq => by rw [List.mem_singleton.mp hq]; exact hmk md rfl) hx
    have nm2 := exec_nm (init_good LU.n.r n) (init_nm LU.n n) (LU.n.kn md) _ _ wfB nmB hmk (fun q hq => by rw [List.mem_singleton.mp hq]; exact hmk md rfl) hx
    have f2 := LU.few w2 nm2
    have eop : s2.op = s.op ++ [md] := gr.op
    have edl : s2.op.dropLast = s.op := by rw [eop]; exact List.dropLast_concat
    -- it has ended
    refine ⟨.ref p, rfl, p, C, A'.dx, _, .ref A'.aO, rfl, sc8.ob, T.cl, T.nS, flP_op A', .inl ⟨rfl, _, sq_of sc8.op⟩, A'.aO, s2.op.map V.str, .str md, rfl, rfl, sc8.op, ?_, ?_⟩
    · rw [eop, List.map_append, List.length_append, List.length_map]
      simp
    have eD : (s2.op.map V.str).dropLast = s.op.map V.str := by rw [eop, List.map_append]; exact List.dropLast_concat
    rw [eD]
    have sc9 := sc8.setO s.op
    have b9 : But (ownS A' xs) H (upd H8 A'.aO (.lst (s.op.map V.str))) := b48.upd in_O
    generalize upd H8 A'.aO (.lst (s.op.map V.str)) = H9 at sc9 b9 ⊢
    -- the result
    refine ⟨.bl b, rfl, b, rfl, ?_⟩
    have lR : (kvR s2.rs).length < sizeLine := sz_lt (by
      have := f2.rs
      unfold kvR
      rw [List.length_map]
      omega)
    rw [edl] at hs'
    have hget : ∀ c : Bool, getA (putA s2.rs md c) md = some c := fun c => by rw [getA_put, if_pos rfl]
    cases b with
    | true =>
      refine ⟨.ref p, rfl, p, C, A'.dx, _, .ref A'.aR, rfl, sc9.ob, T.cl, T.nR, flP_rs A', .str md, rfl, A'.aR, _, rfl, .inl ⟨kvR s2.rs, .inr md, sc9.rs, rfl, lR, rfl⟩, ?_⟩
      have eR : (HO.dK (putK (kvR s2.rs) (.inr md) (.str "ready"))) = .dK (kvR (putA s2.rs md true)) := by
        unfold kvR
        exact congrArg HO.dK (putK_map rdV s2.rs md true)
      rw [eR]
      have sc10 := sc9.setR (putA s2.rs md true)
      have b10 : But (ownS A' xs) H (upd H9 A'.aR (.dK (kvR (putA s2.rs md true)))) := b9.upd in_R
      generalize upd H9 A'.aR (.dK (kvR (putA s2.rs md true))) = H10 at sc10 b10 ⊢
      refine ⟨.bl true, rfl, true, rfl, ?_⟩
      exact ⟨_, xs3, rfl, by rw [hs']; exact sc10, b10, n48, by rw [hs']; exact hget true⟩
    | false =>
      refine ⟨.ref p, rfl, p, C, A'.dx, _, .ref A'.aR, rfl, sc9.ob, T.cl, T.nR, flP_rs A', .str md, rfl, A'.aR, _, rfl, .inl ⟨kvR s2.rs, .inr md, sc9.rs, rfl, lR, rfl⟩, ?_⟩
      have eR : (HO.dK (putK (kvR s2.rs) (.inr md) (.str "failed"))) = .dK (kvR (putA s2.rs md false)) := by
        unfold kvR
        exact congrArg HO.dK (putK_map rdV s2.rs md false)
      rw [eR]
      have sc10 := sc9.setR (putA s2.rs md false)
      have b10 : But (ownS A' xs) H (upd H9 A'.aR (.dK (kvR (putA s2.rs md false)))) := b9.upd in_R
      generalize upd H9 A'.aR (.dK (kvR (putA s2.rs md false))) = H10 at sc10 b10 ⊢
      refine ⟨.bl false, rfl, false, rfl, ?_⟩
      dsimp only
      rw [if_pos (show (!false) = true from rfl)]
      intro a2 za2
      have ea2 : Ex H10 (upd H10 a2 (.dK [])) := Ex.new za2
      have na2 : a2 ∉ ownS A' xs3 := fun z => by
        obtain ⟨o, h1, _⟩ := sc10.own_some a2 z
        rw [za2] at h1
        cases h1
      have wf10 : WfS ⟨s.op, putA s2.rs md false, s2.ex⟩ := ⟨fun q hq => gr.ex q (putA_mem.mpr (.inr (wf.op q hq))), fun q hq => by
        rcases putA_mem.mp hq with rfl | hq
        · exact gr.ex _ (putA_mem.mpr (.inl rfl))
        · exact w2.rs q hq, putA_nodup w2.nr, w2.nx, w2.ni⟩
      obtain ⟨sc11, in11⟩ := (sc10.ex ea2).newE wf10 (md := md) upd_same na2 (fresh_back sc10.bx za2)
      have o2a : a2 ∈ ownS A' xs ∨ H a2 = none := noO b10 za2
      refine ⟨.ref p, rfl, p, C, A'.dx, _, .ref A'.aE, rfl, (sc10.ex ea2).ob, T.cl, T.nE, flP_ex A', .str md, rfl, A'.aE, _, rfl, .inl ⟨kvE xs3, .inr md, (sc10.ex ea2).exd, rfl, sz_lt (by
        have := f2.ex
        rw [← sc8.exs] at this
        unfold exs0 at this
        rw [List.length_map] at this
        show (List.map _ xs3).length < 100000
        rw [List.length_map]
        omega), rfl⟩, ?_⟩
      have eE2 : (HO.dK (putK (kvE xs3) (.inr md) (.ref a2))) = .dK (kvE (putA xs3 md (a2, []))) := by
        unfold kvE
        rw [putK_map (fun r : Addr × Ints => V.ref r.1) xs3 md (a2, [])]
      rw [eE2]
      refine ⟨_, putA xs3 md (a2, []), rfl, by rw [hs']; exact sc11, (b10.trans (But.of ea2)).upd in_E, fun c hc => ?_, by rw [hs']; exact hget false⟩
      rcases in11 c hc with rfl | hc
      · exact o2a
      · exact n48 c hc
end
end Cr
/-! plain runs: initialize and execute at any depth -/
namespace Cr
open PySem PySem.Spec PyProof.Rows L2 Evl
section
variable {P : Program} {w : World} {K : PySem.W.Frag} {mg : Str → Option Value} {base : Heap}
theorem MkF.up {j k : Nat} {C CE : Addr} (h : MkF P w K mg base j C CE) (le : j ≤ k) : MkF P w K mg base k C CE := by
  obtain ⟨f, fd, M, G, b⟩ := h.ex
  exact ⟨⟨f, fd, M, fnUp G le, b⟩⟩
theorem PassP.up {j k : Nat} {C CW CN : Addr} (h : PassP P w K mg base j C CW CN) (le : j ≤ k) : PassP P w K mg base k C CW CN := by
  obtain ⟨f, fd, G, r⟩ := h.ex
  exact ⟨⟨f, fd, fnUp G le, r⟩⟩
/-- what the three methods call -/
structure RunE (P : Program) (w : World) (K : PySem.W.Frag) (mg : Str → Option Value) (base : Heap) (k : Nat) (C CL CF CE CW CN : Addr) : Prop where
  O : HasM P w K mg base CX0 k CF "is_over" ["self"] (spLook CF fun vss pos _ _ => .bl (decide (pos = vss.length)))
  N : HasM P w K mg base CX0 k CF "next_step" ["self"] (spNext CF)
  V : HasM P w K mg base CX0 k CF "variables" ["self"] (spVars CF)
  R : HasM P w K mg base (L2.CX P w) k CF "run_plain" ["self"] (spRun CF CW)
  I : HasO P w K mg base k "is_plain" ["step"] (spD isPlain)
  Ps : PassP P w K mg base k CF CW CN
  L : HasM P w K mg base CX0 k CL "initializer" ["self", "module"] (spLIni CL)
  F : MkF P w K mg base k CF CE
theorem RunE.up {j k : Nat} {C CL CF CE CW CN : Addr} (h : RunE P w K mg base j C CL CF CE CW CN) (le : j ≤ k) : RunE P w K mg base k C CL CF CE CW CN :=
  ⟨h.O.up le, h.N.up le, h.V.up le, h.R.up le, h.I.up le, h.Ps.up le, h.L.up le, h.F.up le⟩
theorem runs_at {C CL CF CE CW CN : Addr} {j : Nat} (B : Blt mg) (T : PrC K mg C) (TF : FrC K mg CF) (TL : LbC K mg CL) (mI : MethAt K C "initialize" "PlainRun.initialize" sPIni) (mE : MethAt K C "execute" "PlainRun.execute" sPExec) (mG : MethAt K C "get_past" "PlainRun.get_past" sPPast)
    (E : RunE P w K mg base (j + 1) C CL CF CE CW CN) : ∀ n, HasM P w K mg base CX0 (j + 1 + 3 * n) C "initialize" ["self", "module"] (spPIni C CL n) ∧ HasM P w K mg base CX0 (j + 1 + 3 * n + 2) C "execute" ["self", "module", "frame"] (spExec C CL CF n) := by
  have goE : ∀ n, HasM P w K mg base CX0 (j + 1 + 3 * n) C "initialize" ["self", "module"] (spPIni C CL n) → HasM P w K mg base CX0 (j + 1 + 3 * n + 2) C "execute" ["self", "module", "frame"] (spExec C CL CF n) := fun n h => by
    have hG : HasM P w K mg base CX0 (j + 1 + 3 * n + 1) C "get_past" ["self", "frame", "readable"] (spPast P w C CL CF n) := hasM_mk mG (fun _ _ _ _ _ _ us hl => match us, hl with | [_, _, _], _ => rfl) fun f fd F => ok_past F B T TF (E.N.up (by omega)) h (E.Ps.up (by omega))
    exact hasM_mk mE (fun _ _ _ _ _ _ us hl => match us, hl with | [_, _, _], _ => rfl) fun f fd F => ok_exec F B T TF (E.O.up (by omega)) (E.N.up (by omega)) (E.V.up (by omega)) (E.R.up (by omega)) (E.I.up (by omega)) (E.Ps.up (by omega)) hG
  intro n
  have hI : HasM P w K mg base CX0 (j + 1 + 3 * n) C "initialize" ["self", "module"] (spPIni C CL n) := by
    induction n with
    | zero =>
      refine hasM_mk mI (fun _ _ _ _ _ _ us hl => match us, hl with | [_, _], _ => rfl) fun f fd F => ?_
      refine F.ok scPIni (fun vs H Q E h => by obtain ⟨_, _, _, _, _, _, _, _, _, _, rfl, _⟩ := h; rfl) (fun cdv A outer s H vs Q E hr h => ?_)
      obtain ⟨_, _, _, _, _, _, _, _, _, _, _, _, _, _, _, _, h, _⟩ := h
      cases h
    | succ n ih =>
      have h := goE n ih
      have e : j + 1 + 3 * (n + 1) = (j + 1 + 3 * n + 2) + 1 := by omega
      rw [e]
      refine hasM_mk mI (fun _ _ _ _ _ _ us hl => match us, hl with | [_, _], _ => rfl) fun f fd F => ok_pini F B T TF TL (by omega) h (E.L.up (by omega)) (E.F.up (by omega))
  exact ⟨hI, goE n hI⟩
end
end Cr
/-! paths from a name, the shortest first: the list that grows while it is walked -/
namespace Cr
open PySem PySem.Spec PyProof.Rows L2 Evl
def lastP (p : List Str) : Str := p.getLastD ""
def lasts (q : List (List Str)) : List Str := q.map lastP
/-- one target more -/
def ext1 (p : List Str) (q : List (List Str)) (t : Str) : List (List Str) := if t ∈ lasts q then q else q ++ [p ++ [t]]
def ext (ts : List Str) (p : List Str) (q : List (List Str)) : List (List Str) := ts.foldl (ext1 p) q
inductive Reach (T : Str → List Str) (a : Str) : Str → Prop
  | refl : Reach T a a
  | step {b t : Str} : Reach T a b → t ∈ T b → Reach T a t
theorem Reach.mono {T T' : Str → List Str} {a b : Str} (h : ∀ s t, t ∈ T s → t ∈ T' s) (r : Reach T a b) : Reach T' a b := by
  induction r with
  | refl => exact .refl
  | step _ m ih => exact .step ih (h _ _ m)
end Cr
/-! the search by levels over rising targets: its paths rise, and each is the least one to its end -/
namespace Cr
open PySem
/-- lists of texts in order -/
def ltL : List Str → List Str → Prop
  | [], [] => False
  | [], _ :: _ => True
  | _ :: _, [] => False
  | x :: xs, y :: ys => ltS x y ∨ (x = y ∧ ltL xs ys)
/-- the shorter first, equally long ones in order -/
def sl (p q : List Str) : Prop := p.length < q.length ∨ (p.length = q.length ∧ ltL p q)
inductive IsPath (T : Str → List Str) (a : Str) : List Str → Prop
  | one : IsPath T a [a]
  | more {p : List Str} {t : Str} : IsPath T a p → t ∈ T (lastP p) → IsPath T a (p ++ [t])
section
variable {T : Str → List Str} {a : Str}
theorem IsPath.ne {p : List Str} (h : IsPath T a p) : p ≠ [] := by
  cases h with
  | one => exact List.cons_ne_nil _ _
  | more _ _ => exact List.append_ne_nil_of_right_ne_nil _ (List.cons_ne_nil _ _)
end
end Cr
/-! lists of names as data: their order, min, comprehensions that make them -/
namespace Cr
open PySem PySem.Spec PyProof.Rows L2 Evl
def lD (p : List Str) : PyData := .list (p.map PyData.str)
/-! ### min of a list of lists of names -/
/-! ### comprehensions whose members are new lists of names -/
end Cr
/-! new pairs in a comprehension over any walk; parts of lists of names -/
/-! xs[:] = ys -/
/-! dict([(name, a new list) for name in names]); list.remove of a pair -/
namespace Cr
open PySem PySem.Spec PyProof.Rows L2 Evl
/-- a dict of lists of names, by names -/
def NmD (H : Hp) (d : Addr) (ns : List Str) (f : Str → List Str) : Prop := ∃ kvs, H d = some (.dK kvs) ∧ ∀ n ∈ ns, ∃ L, valV kvs (.inr n) = some (.ref L) ∧ H L = some (.lst ((f n).map V.str))
theorem NmD.ex {H H' : Hp} {d : Addr} {ns : List Str} {f : Str → List Str} (h : NmD H d ns f) (e : Ex H H') : NmD H' d ns f := by
  obtain ⟨kvs, h1, h2⟩ := h
  exact ⟨kvs, e _ _ h1, fun n hn => by obtain ⟨L, a, b⟩ := h2 n hn; exact ⟨L, a, e _ _ b⟩⟩
abbrev rDictP (K : PySem.W.Frag) : List V → Hp → VK → Prop := fun xs H Q => ∃ (a : Addr) (ps : List Addr) (kvs : List (Key × V)), xs = [.ref a] ∧ SqL K H a (ps.map V.ref) ∧ Paired (fun p kv => SqT K H p [kV kv.1, kv.2]) ps kvs ∧ ∀ p, H p = none → Q (.ref p) (upd H p (.dK (mergeK [] kvs)))
/-! ### list.remove of a pair -/
end Cr
/-! dict([(name, its program) for name in names]) -/
/-! dict([(name, a new list) for name in names]) -/
namespace Cr
open PySem PySem.Spec PyProof.Rows L2 Evl
structure CRow where
  t : Addr
  n : Str
  l : Addr
/-- a dict of new lists -/
structure CpD (H1 H : Hp) (d : Addr) (xf : Str → List V) (rs : List (Str × Addr)) : Prop where
  at_ : H d = some (.dK (rs.map fun r => ((.inr r.1 : Key), V.ref r.2)))
  new : H1 d = none
  row : ∀ r ∈ rs, H1 r.2 = none ∧ r.2 ≠ d ∧ H r.2 = some (.lst (xf r.1))
  nd : (rs.map (·.2)).Nodup
theorem dictC_at {K : PySem.W.Frag} {J : It} {G : Hp → Prop} {Y : Nat → Hp → V → Hp → Prop} {tn : TE} {σ : L2.St} {H1 : Hp} {j : Nat} {ns : List Str} {Q : VK} (xf : Str → List V) (w : Walk J ns.length G Y) (hG : ∀ H2, Ex H1 H2 → G H2) (hY : ∀ i H x H', Y i H x H' → H' = H ∧ ∃ n, ns[i]? = some n ∧ x = .str n)
    (nd : ns.Nodup) (hz : ns.length ≤ 40000) (hj : ∀ x, wipe ((wipe σ [j]).set j (some x)) [j] = wipe σ [j]) (hjl : j < σ.length) (hwl : (wipe σ [j]).length = σ.length)
    (ht : ∀ n ∈ ns, ∀ H2, Ex H1 H2 → EvL tn ((wipe σ [j]).set j (some (.str n))) H2 (xf n)) (q : ∀ d rs H2, rs.map (·.1) = ns → Ex H1 H2 → CpD H1 H2 d xf rs → Q (.ref d) H2) :
    tLc (fun _ H R => R J H) (gName j) tYes (tTup (tCons (tVar j) (tCons tn tNil))) [j] σ H1 fun x H2 => rDictP K [x] H2 Q := fun D hD => by
  refine lc_it w (fun i H2 => ∃ rs : List CRow, H2 D = some (.lst (rs.map fun r => V.ref r.t)) ∧ rs.map (·.n) = ns.take i ∧ (∀ r ∈ rs, r.t ≠ D ∧ H2 r.t = some (.tup [.str r.n, .ref r.l]) ∧ H1 r.l = none ∧ r.l ≠ D ∧ H2 r.l = some (.lst (xf r.n))) ∧ (rs.map (·.l)).Nodup ∧ Ex H1 (wo D H2))
    ⟨[], upd_same, rfl, fun r h => (nomatch h), List.nodup_nil, fun c o hb => by rw [wo_ne (ne_of_none hb hD), upd_ne (ne_of_none hb hD)]; exact hb⟩ (fun i H2 _ z => ?_) (fun i x H2 H3 hlt z y => ?_) (fun H2 z => ?_)
  · obtain ⟨_, _, _, _, _, ex2⟩ := z
    exact hG H2 (ex2.trans (wo_ex D H2))
  · obtain ⟨rs, hD2, hrs, hr, hnd, ex2⟩ := z
    obtain ⟨rfl, n, hn, rfl⟩ := hY _ _ _ _ y
    have low := ex2.trans (wo_ex D H3)
    refine ⟨hj _, ?_⟩
    refine (show EvT tYes _ H3 true from fun H1 _ Q q => q H1 (Ex.refl H1)) H3 (Ex.refl H3) _ fun H5 e5 => ?_
    rw [if_pos rfl]
    replace hD2 := e5 _ _ hD2
    replace hr : ∀ r ∈ rs, r.t ≠ D ∧ H5 r.t = some (.tup [.str r.n, .ref r.l]) ∧ H1 r.l = none ∧ r.l ≠ D ∧ H5 r.l = some (.lst (xf r.n)) := fun r h => ⟨(hr r h).1, e5 _ _ (hr r h).2.1, (hr r h).2.2.1, (hr r h).2.2.2.1, e5 _ _ (hr r h).2.2.2.2⟩
    replace low := low.trans e5
    clear ex2 e5
    refine ⟨.str n, List.getElem?_set_self (by rw [hwl]; exact hjl), ht n (List.mem_of_getElem? hn) H5 low H5 (Ex.refl H5) _ fun l H4 zl e4 hl => ⟨by show 2 ≤ sizeLine; decide, fun T zT => ?_⟩⟩
    have hD4 := e4 _ _ hD2
    have nT : T ≠ D := fun z => by rw [z, hD4] at zT; cases zT
    have nlD : l ≠ D := fun z => by rw [z, hD2] at zl; cases zl
    have e5 : Ex H4 (upd H4 T (.tup [.str n, .ref l])) := Ex.new zT
    have nlT : l ≠ T := fun z => by rw [z, zT] at hl; cases hl
    have ll : rs.length ≤ ns.length := by
      have := congrArg List.length hrs
      rw [List.length_map, List.length_take] at this
      omega
    refine ⟨_, e5 _ _ hD4, by rw [List.length_map, sizeLine_eq]; omega, rs ++ [⟨T, n, l⟩], ?_, ?_, fun r hr' => ?_, ?_, fun c o hc => ?_⟩
    · rw [upd_same, List.map_append]
      rfl
    · rw [List.map_append, hrs, List.take_add_one, hn]
      rfl
    · rcases List.mem_append.mp hr' with h | h
      · obtain ⟨h1, h2, h3, h4, h5⟩ := hr r h
        refine ⟨h1, ?_, h3, h4, ?_⟩
        · rw [upd_ne h1]; exact e5 _ _ (e4 _ _ h2)
        · rw [upd_ne h4]; exact e5 _ _ (e4 _ _ h5)
      · rw [List.mem_singleton.mp h]
        refine ⟨nT, ?_, fresh_back low zl, nlD, ?_⟩
        · rw [upd_ne nT]; exact upd_same
        · rw [upd_ne nlD, upd_ne nlT]; exact hl
    · rw [List.map_append]
      refine List.nodup_append.mpr ⟨hnd, by simp, fun a ha b hb e => ?_⟩
      obtain ⟨r, hr1, rfl⟩ := List.mem_map.mp ha
      have hb := List.mem_singleton.mp hb
      have h5 := (hr r hr1).2.2.2.2
      have e2 : r.l = l := e.trans hb
      rw [e2, zl] at h5
      cases h5
    · rw [wo_ne (ne_of_none hc hD), upd_ne (ne_of_none hc hD)]
      exact e5 _ _ (e4 _ _ (low _ _ hc))
  · obtain ⟨rs, hD2, hrs, hr, hnd, ex2⟩ := z
    rw [List.take_length] at hrs
    have low := ex2.trans (wo_ex D H2)
    refine ⟨D, rs.map (·.t), rs.map fun r => ((.inr r.n : Key), V.ref r.l), rfl, sq_of (by rw [hD2, List.map_map]; rfl), ?_, fun d zd => ?_⟩
    · clear hrs hD2 q hnd
      induction rs with
      | nil => exact .nil
      | cons r t ih => exact .cons (st_of (hr r List.mem_cons_self).2.1) (ih fun r' h => hr r' (List.mem_cons_of_mem _ h))
    · have em : mergeK [] (rs.map fun r => ((.inr r.n : Key), V.ref r.l)) = rs.map fun r => ((.inr r.n : Key), V.ref r.l) := by
        refine (mergeK_new ?_ fun k _ h => absurd h (by simp)).trans (List.nil_append _)
        have e1 : (rs.map fun r => ((.inr r.n : Key), V.ref r.l)).map (·.1) = ns.map fun n => (Sum.inr n : Key) := by
          rw [← hrs, List.map_map, List.map_map]
          rfl
        rw [e1]
        exact List.Pairwise.map _ (fun a b h e => h (Sum.inr.inj e)) nd
      rw [em]
      refine q d (rs.map fun r => (r.n, r.l)) _ (by rw [List.map_map]; exact hrs) (low.trans (Ex.new zd)) ⟨?_, fresh_back low zd, fun r hr' => ?_, ?_⟩
      · rw [upd_same, List.map_map]
        rfl
      · obtain ⟨y, hy, rfl⟩ := List.mem_map.mp hr'
        obtain ⟨h1, h2, h3, h4, h5⟩ := hr y hy
        have nd' : y.l ≠ d := ne_of_none h5 zd
        exact ⟨h3, nd', by rw [upd_ne nd']; exact h5⟩
      · rw [List.map_map]
        exact hnd
/-- over a list of names -/
theorem dictC_list {K : PySem.W.Frag} {tl tn : TE} {σ : L2.St} {H1 : Hp} {j : Nat} {a : Addr} {ns : List Str} {Q : VK} (xf : Str → List V) (hl : Ev tl σ H1 (.ref a)) (ha1 : H1 a = some (.lst (ns.map V.str))) (nd : ns.Nodup) (hz : ns.length ≤ 40000) (hj : ∀ x, wipe ((wipe σ [j]).set j (some x)) [j] = wipe σ [j]) (hjl : j < σ.length) (hwl : (wipe σ [j]).length = σ.length)
    (ht : ∀ n ∈ ns, ∀ H2, Ex H1 H2 → EvL tn ((wipe σ [j]).set j (some (.str n))) H2 (xf n)) (q : ∀ d rs H2, rs.map (·.1) = ns → Ex H1 H2 → CpD H1 H2 d xf rs → Q (.ref d) H2) :
    tCB (rDictP K) (tCons (tLc (iList K tl) (gName j) tYes (tTup (tCons (tVar j) (tCons tn tNil))) [j]) tNil) σ H1 Q :=
  hl H1 (Ex.refl H1) _ fun H2 e2 => ⟨a, rfl, ⟨_, sq_of (e2 _ _ ha1)⟩, dictC_at (K := K) (J := Itl K a) (tn := tn) xf (by have := walk_list (K := K) (a := a) (xs := ns.map V.str); rw [List.length_map] at this; exact this) (fun H3 e3 => sq_of ((e2.trans e3) _ _ ha1)) (fun i H x H' y => by
      obtain ⟨rfl, hy⟩ := y
      rw [List.getElem?_map] at hy
      cases hh : ns[i]? with
      | none => rw [hh] at hy; cases hy
      | some z => rw [hh] at hy; exact ⟨rfl, z, rfl, (Option.some.inj hy).symm⟩) nd hz hj hjl hwl (fun n hn H3 e3 => ht n hn H3 (e2.trans e3)) fun d rs H3 h1 e3 c => q d rs H3 h1 (e2.trans e3) ⟨c.at_, fresh_back e2 c.new, fun r hr => ⟨fresh_back e2 (c.row r hr).1, (c.row r hr).2⟩, c.nd⟩⟩
/-- such a dict holds the library again -/
theorem CpD.lib {H1 H : Hp} {d : Addr} {xf : Str → List V} {rs : List (Str × Addr)} {L : Lib} (c : CpD H1 H d xf rs) (hn : rs.map (·.1) = L.map (·.1)) (nd : (L.map (·.1)).Nodup) (hx : ∀ r ∈ L, DtAll H (xf r.1) (r.2.map PyData.tuple)) : Dt H (.ref d) (libD L) := by
  refine .dct c.at_ ?_
  have go : ∀ {rs : List (Str × Addr)} {L : Lib}, (∀ r ∈ rs, H r.2 = some (.lst (xf r.1))) → rs.map (·.1) = L.map (·.1) → (∀ r ∈ L, DtAll H (xf r.1) (r.2.map PyData.tuple)) → LKv H (rs.map fun r => ((.inr r.1 : Key), V.ref r.2)) L := by
    intro rs
    induction rs with
    | nil =>
      intro L _ hn _
      cases L with
      | nil => exact .nil
      | cons y L => simp at hn
    | cons r rs ih =>
      intro L hr hn hx
      cases L with
      | nil => simp at hn
      | cons y L =>
        rw [List.map_cons, List.map_cons] at hn
        injection hn with e1 e2
        obtain ⟨yn, yp⟩ := y
        have e1 : r.1 = yn := e1
        subst e1
        exact DtKv.cons (k := Sum.inr r.1) (.lst (hr r List.mem_cons_self) (hx _ List.mem_cons_self)) (ih (fun z hz => hr z (List.mem_cons_of_mem _ hz)) e2 fun z hz => hx z (List.mem_cons_of_mem _ hz))
  exact go (fun r hr => (c.row r hr).2.2) hn hx
end Cr
/-! general: walks over lists of data -/
namespace Cr
open PySem PySem.Spec PyProof.Rows L2 Evl
def YData (ds : List PyData) : Nat → Hp → V → Hp → Prop := fun i H x H' => H' = H ∧ ∃ d, ds[i]? = some d ∧ Dt H x d
end Cr
/-! dicts of data opened, tuples of data walked -/
namespace Cr
open PySem PySem.Spec PyProof.Rows L2 Evl
theorem dt_dct {H : Hp} {a : Addr} {es : List (PyData × PyData)} (h : Dt H (.ref a) (.dict es)) : ∃ kvs, H a = some (.dK kvs) ∧ DtKv H kvs es := by
  cases h with
  | dct h t => exact ⟨_, h, t⟩
/-- a tuple of data walked, each for a value -/
theorem el_tupY {K : PySem.W.Frag} {wl te : TE} {σ : L2.St} {H : Hp} {j : Nat} {ds : List PyData} (v : PyData → V) (hl : EvD wl σ H (.tuple ds)) (hz : ds.length ≤ 40000) (hw : ∀ x, wipe ((wipe σ [j]).set j (some x)) [j] = wipe σ [j])
    (ht : ∀ x d H1, Ex H H1 → d ∈ ds → Dt H1 x d → Ev te ((wipe σ [j]).set j (some x)) H1 (v d)) : EvL (tLc (iTup K wl) (gName j) tYes te [j]) σ H (ds.map v) := by
  have lc := el_lcW (wi := iTup K wl) (g := gName j) (tt := tYes) (te := te) (vs := [j]) (σ := σ) (H := H) (n := ds.length) (Y := YData ds) (fun _ => true) (fun i => v (ds.getD i .none)) hz
    (fun H1 e1 R r => hl H1 e1 _ fun u H2 e2 du => by
      obtain ⟨a, rfl⟩ : ∃ a, u = .ref a := by cases du; exact ⟨_, rfl⟩
      obtain ⟨xs, ha, hxs⟩ := dt_tup du
      have w := walk_tup (K := K) (a := a) (xs := xs)
      rw [hxs.length] at w
      have wk : Walk (Itt K a) ds.length (fun H => SqT K H a xs ∧ DtAll H xs ds) (YData ds) := ⟨fun i H hi g => w.goes i H hi g.1, fun H g => w.stops H g.1, fun i H x H' hi g y => by
        obtain ⟨e, h⟩ := w.yields i H x H' hi g.1 y
        exact ⟨e, DtAll.get g.2 h⟩⟩
      exact ⟨a, rfl, ⟨_, st_of ha⟩, r H2 _ _ wk (fun _ _ e z => ⟨ex_t e z.1, DtAll.ex e z.2⟩) e2 ⟨st_of ha, hxs⟩⟩)
    (fun i y H1 H2 e1 hi hy => by
      obtain ⟨rfl, d, hd, dy⟩ := hy
      have gd : ds.getD i .none = d := by rw [List.getD_eq_getElem?_getD, hd]; rfl
      have h2 := ht y d H2 e1 (List.mem_of_getElem? hd) dy
      rw [← gd] at h2
      exact ⟨Ex.refl _, _, hw y, fun R r => r, fun H6 _ Q q => q H6 (Ex.refl H6), fun _ => h2⟩)
  have e : given ds.length (fun _ => true) (fun i => v (ds.getD i .none)) = ds.map v := by
    rw [given_flt ds .none (fun _ => true) v, List.filter_eq_self.mpr fun _ _ => rfl]
  rw [e] at lc
  exact lc
end Cr
/-! libraries as values -/
namespace Cr
open PySem PySem.Spec PyProof.Rows L2 Evl
theorem libOk_st {L : Lib} (v : LibV L) : StepsV L := fun r hr => (v.ok r hr).st
/-- Library(d), apart from all that was known -/
theorem make_new {C d : Addr} {σ : L2.St} {H : Hp} {L : Lib} {ta : TE} {Q : VK} (ha : Ev ta σ H (.ref d)) (hd : Dt H (.ref d) (libD L)) (ok : LibOk L) (q : ∀ y H2, H y = none → Ex H H2 → LbNw C H H2 y (srtL L) → Q (.ref y) H2) : tMake C (spLInit C) [] E0 (tCons ta tNil) σ H Q := by
  refine ha H (Ex.refl H) _ fun H2 e2 => ?_
  intro y dy zy zdy nyd
  obtain ⟨kvs, hk, hkv⟩ := dt_dct (Dt.ex e2 hd)
  have eN : ∀ {o1 o2 : HO}, Ex H2 (upd (upd H2 dy o1) y o2) := fun {o1 o2} b o hb => by rw [upd_ne (ne_of_none hb zy), upd_ne (ne_of_none hb zdy)]; exact hb
  exact ⟨y, dy, .ref d, d, kvs, L, rfl, upd_same, rfl, eN _ _ hk, DtKv.ex eN hkv, ok, fun H9 lb hk => ⟨rfl, q y H9 (fresh_back e2 zy) (e2.trans fun b o hb => hk b o (ne_of_none hb zy) (eN _ _ hb)) (lb.back (e2.trans eN))⟩⟩
/-! ### equal or not, by what they hold -/
end Cr
namespace Cr
open PySem PySem.Spec PyProof.Rows L2 Evl
theorem dt_wordy {H H' : Hp} {v : V} {d : PyData} (h : Dt H v d) (w : wordy d = true) : Dt H' v d := by
  cases h with
  | str x => exact .str x
  | int i => exact .int i
  | _ => exact nomatch w
theorem dts_wordy {H H' : Hp} : ∀ {vs : List V} {ds : List PyData}, DtAll H vs ds → (∀ d ∈ ds, wordy d = true) → DtAll H' vs ds
  | _, _, .nil, _ => .nil
  | _, _, .cons h t, w => .cons (dt_wordy h (w _ List.mem_cons_self)) (dts_wordy t fun d hd => w d (List.mem_cons_of_mem _ hd))
theorem dt_step {H H' : Hp} {v : V} {ds : List PyData} (h : Dt H v (.tuple ds)) (w : isStep (.tuple ds) = true) (k : Tps H H') : Dt H' v (.tuple ds) := by
  cases h with
  | tup h t => exact .tup (k _ _ h) (dts_wordy t (step_wordy w).2)
theorem dts_step {H H' : Hp} (k : Tps H H') : ∀ {vs : List V} {p : Prog}, DtAll H vs (p.map PyData.tuple) → (∀ ds ∈ p, isStep (.tuple ds) = true) → DtAll H' vs (p.map PyData.tuple)
  | [], [], _, _ => .nil
  | v :: vs, ds :: p, h, w => by
    cases h with
    | cons h t => exact .cons (dt_step h (w _ List.mem_cons_self) k) (dts_step k t fun d hd => w d (List.mem_cons_of_mem _ hd))
  | [], _ :: _, h, _ => nomatch h
  | _ :: _, [], h, _ => nomatch h
end Cr
namespace Cr
open PySem PySem.Spec PyProof.Rows L2 Evl
/-! ### libraries while the pot is drawn from -/
theorem prog_wo {H : Hp} {p : Addr} {x y : Int} {v : V} {pr : Prog} (hp : H p = some (.lst [.int x, .int y])) (h : Dt H v (progD pr)) (w : ∀ ds ∈ pr, isStep (.tuple ds) = true) : Dt (wo p H) v (progD pr) := by
  obtain ⟨a, xs, rfl, ha, hxs⟩ := dt_lst h
  have ap : a ≠ p := fun e => by
    rw [e, hp] at ha
    cases ha
    cases pr with
    | nil => cases hxs
    | cons ds pr =>
      have hxs : DtAll H [V.int x, V.int y] (PyData.tuple ds :: pr.map PyData.tuple) := hxs
      cases hxs with
      | cons h0 _ => cases h0
  refine .lst (by rw [wo_ne ap]; exact ha) (dts_step (fun c ys hc => ?_) hxs w)
  rw [wo_ne (fun e => by rw [e, hp] at hc; cases hc)]
  exact hc
theorem lkv_wo {H : Hp} {p : Addr} {x y : Int} (hp : H p = some (.lst [.int x, .int y])) : ∀ {L : Lib} {kvs : List (Key × V)}, StepsV L → LKv H kvs L → LKv (wo p H) kvs L
  | [], kvs, _, h => by rw [lkv_nil h]; exact .nil
  | r :: L, kvs, w, h => by
    obtain ⟨v, kvs', rfl, hv, h⟩ := lkv_inv h
    exact .cons (k := Sum.inr r.1) (prog_wo hp hv (w r List.mem_cons_self)) (lkv_wo hp (fun y hy => w y (List.mem_cons_of_mem _ hy)) h)
theorem lib_drew {H H' : Hp} {p d : Addr} {L : Lib} (r : Drew p H H') (pot : Pot H p) (w : StepsV L) (h : Dt H (.ref d) (libD L)) : Dt H' (.ref d) (libD L) := by
  obtain ⟨x, y, hp, _⟩ := pot
  obtain ⟨kvs, hk, hkv⟩ := dt_dct h
  have dp : d ≠ p := fun e => by rw [e, hp] at hk; cases hk
  exact .dct (r.at dp hk) (DtKv.ex (wo_ex p H') (DtKv.ex r.ex (lkv_wo hp w hkv)))
theorem LbAt.drew {C x : Addr} {H H' : Hp} {p : Addr} {L : Lib} (h : LbAt C H x L) (r : Drew p H H') (pot : Pot H p) (w : StepsV L) : LbAt C H' x L := by
  obtain ⟨i, j, hp, _⟩ := pot
  obtain ⟨dx, dd, kvs, h1, h2, h3⟩ := h.ob
  exact ⟨dx, dd, kvs, r.at (fun e => by rw [e, hp] at h1; cases h1) h1, r.at (fun e => by rw [e, hp] at h2; cases h2) h2, DtKv.ex (wo_ex p H') (DtKv.ex r.ex (lkv_wo hp w h3))⟩
end Cr
/-! a dict of programs changed in place; names picked out of it -/
namespace Cr
open PySem PySem.Spec PyProof.Rows L2 Evl
theorem ev_dgetR {td ty : TE} {σ : L2.St} {H : Hp} {a : Addr} {kvs : List (Key × V)} {x : Str} {v : V} (hd : Ev td σ H (.ref a)) (hy : Ev ty σ H (.str x)) (h : Rd H a (.dK kvs)) (hv : valV kvs (.inr x) = some v) : Ev (tDGet td ty) σ H v := fun H1 e Q q =>
  hd H1 e _ fun H2 e2 => hy H2 (e.trans e2) _ fun H3 e3 => ⟨a, v, rfl, .inl ⟨kvs, .inr x, ex_rd ((e.trans e2).trans e3) h, rfl, hv.symm⟩, q H3 (e2.trans e3)⟩
theorem lkv_at {H : Hp} {kvs : List (Key × V)} {L : Lib} {n : Str} (h : LKv H kvs L) (hn : n ∈ L.map (·.1)) : ∃ v, valV kvs (.inr n) = some v ∧ Dt H v (progD (progL L n)) := by
  rcases lkv_val n h with ⟨z, _⟩ | ⟨r', v', hr', hv', dv'⟩
  · obtain ⟨r, hr, rfl⟩ := List.mem_map.mp hn
    unfold rowL at z
    rw [List.find?_eq_none] at z
    exact absurd (decide_eq_true rfl) (z r hr)
  · refine ⟨v', hv', ?_⟩
    unfold progL
    rw [hr']
    exact dv'
theorem progL_at {L : Lib} {n : Str} (nd : (L.map (·.1)).Nodup) (hn : n ∈ L.map (·.1)) : (n, progL L n) ∈ L := by
  obtain ⟨r, hr, rfl⟩ := List.mem_map.mp hn
  rw [progL_in nd hr]
  exact hr
abbrev rSrtD : List V → Hp → VK → Prop := fun xs H Q => ∃ (a : Addr) (kvs : List (Key × V)) (ks : List Str), xs = [.ref a] ∧ Rd H a (.dK kvs) ∧ kvs.map (·.1) = ks.map Sum.inr ∧ ks.length < 64 ∧ ∀ ys p, ys.Perm ks → sortedS ys = true → H p = none → Q (.ref p) (upd H p (.lst (ys.map V.str)))
/-- the lists of the dict's programs, each made anew -/
def rowsOf (H : Hp) (kvs : List (Key × V)) (n : Str) : List V :=
  match valV kvs (.inr n) with
  | some (.ref a) => (match H a with
    | some (.lst xs) => xs
    | _ => [])
  | _ => []
theorem rows_of {H : Hp} {kvs : List (Key × V)} {L : Lib} {n : Str} (h : LKv H kvs L) (hn : n ∈ L.map (·.1)) : ∃ a, valV kvs (.inr n) = some (.ref a) ∧ H a = some (.lst (rowsOf H kvs n)) ∧ DtAll H (rowsOf H kvs n) ((progL L n).map PyData.tuple) := by
  obtain ⟨v, h1, h2⟩ := lkv_at h hn
  obtain ⟨a, xs, rfl, ha, hxs⟩ := dt_lst h2
  have e : rowsOf H kvs n = xs := by
    unfold rowsOf
    rw [h1]
    dsimp only
    rw [ha]
  exact ⟨a, h1, by rw [e]; exact ha, by rw [e]; exact hxs⟩
abbrev rListK (K : PySem.W.Frag) : List V → Hp → VK → Prop := fun xs H Q => ∃ p ys, xs = [V.ref p] ∧ (SqL K H p ys ∨ SqT K H p ys) ∧ ∀ l, H l = none → Q (.ref l) (upd H l (.lst ys))
/-- list(d[n]), d locked or not -/
theorem el_rows {K : PySem.W.Frag} {td ty : TE} {σ : L2.St} {H0 H : Hp} {d : Addr} {kvs : List (Key × V)} {L : Lib} {n : Str} (hd : Ev td σ H (.ref d)) (hy : Ev ty σ H (.str n)) (hk : Rd H d (.dK kvs)) (hL : LKv H0 kvs L) (hn : n ∈ L.map (·.1)) (kp : ∀ a xs, H0 a = some (.lst xs) → H a = some (.lst xs)) :
    EvL (tCB (rListK K) (tCons (tDGet td ty) tNil)) σ H (rowsOf H0 kvs n) := by
  obtain ⟨a, h1, h2, _⟩ := rows_of hL hn
  exact fun H1 e1 Q q => ev_dgetR hd hy hk h1 H1 e1 _ fun H2 e2 => ⟨a, _, rfl, .inl (sq_of ((e1.trans e2) _ _ (kp _ _ h2))), fun l zl => q l _ (fresh_back e2 zl) (e2.trans (Ex.new zl)) upd_same⟩
end Cr
/-! plain runs: check_mains, for right main programs -/
namespace Cr
open PySem PySem.Spec PyProof.Rows L2 Evl
abbrev sChkM : Stmt := topS 40
abbrev nChkM : List Str := ["library", "mains", "name", "error"]
theorem scChkM : FnScope nChkM ["library", "mains"] (defScope sChkM) := ⟨rfl, rfl, rfl, by decide +kernel, rfl, by decide +kernel, by decide +kernel⟩
/-- right main programs of a library -/
structure MainsV (L M : Lib) : Prop where
  nm : ∀ r ∈ M, isNameS r.1 = true
  nd : (M.map (·.1)).Nodup
  l8 : M.length ≤ 8
  ok : ∀ r ∈ M, ProgV r.2
  mi : ∀ r ∈ M, ∀ ds ∈ r.2, okMod (L.map (·.1)) ds = true
  ne : ∀ r ∈ M, ∀ ds ∈ r.2, isExport (.tuple ds) = false
theorem due_main {p : Prog} {ns : List Str} (v : ProgV p) (hm : ∀ ds ∈ p, okMod ns ds = true) (he : ∀ ds ∈ p, isExport (.tuple ds) = false) : dueOf (some (ns.map V.str)) true (progD p) = none := by
  have h30 : ¬ (p.map PyData.tuple).length > 30 := by rw [List.length_map]; have := v.len; omega
  have e : dueOf (some (ns.map V.str)) true (progD p) = (firstBad (some (ns.map V.str)) true (p.map PyData.tuple)).map fun i => (i : Int) := if_neg h30
  rw [e, first_none fun j hj => ?_]
  · rfl
  rw [List.length_map] at hj
  unfold wrongAt
  rw [getD_map PyData.tuple .none [] hj, List.length_map, Bool.true_and]
  have gj := getD_at ([] : List PyData) hj
  have mem : p.getD j [] ∈ p := by rw [gj]; exact List.getElem_mem hj
  have bf := v.bf j (p.getD j []) (by rw [gj]; exact List.getElem?_eq_getElem hj)
  unfold fitsIn
  rw [bf, Bool.true_and]
  have e2 : modsOk (some (ns.map V.str)) (.tuple (p.getD j [])) = true := by
    have z := mods_ok (known := ns.map some) (ns := ns) (fun x => by rw [List.mem_map]; exact ⟨fun ⟨y, hy, e⟩ => by cases e; exact hy, fun h => ⟨x, h, rfl⟩⟩) (p.getD j [])
    rw [hm _ mem] at z
    rw [List.map_map] at z
    exact z
  rw [e2, he _ mem]
  rfl
theorem ex_unlock {H H2 : Hp} {D : Addr} {od : Obj} {kvs : List (Key × V)} (hd : H D = some (.dK kvs)) (e : Ex (upd H D (.frz od (.dK kvs))) H2) : Ex H (upd H2 D (.dK kvs)) := fun b o hb => by
  by_cases eb : b = D
  · rw [eb] at hb ⊢
    rw [hd] at hb
    rw [upd_same]
    exact hb
  · rw [upd_ne eb]
    exact e _ _ (by rw [upd_ne eb]; exact hb)
/-- the mains beside the library, where they may be locked -/
structure MnAt (CL : Addr) (H : Hp) (D lib : Addr) (kvs : List (Key × V)) (L M : Lib) : Prop where
  d : H D = some (.dK kvs)
  k : LKv H kvs M
  lk : ∀ od, LKv (upd H D (.frz od (.dK kvs))) kvs M
  ll : ∀ od, LbAt CL (upd H D (.frz od (.dK kvs))) lib L
  l : LbAt CL H lib L
theorem dtAll_locked {H : Hp} {D : Addr} {kvs : List (Key × V)} (hd : H D = some (.dK kvs)) (od : Obj) : KeepLT H (upd H D (.frz od (.dK kvs))) := keepLT_upd (fun xs h => by rw [hd] at h; cases h) (fun xs h => by rw [hd] at h; cases h)
theorem prog_steps {M : Lib} (h : ∀ r ∈ M, ProgV r.2) : ∀ r ∈ M, ∀ ds ∈ r.2, isStep (.tuple ds) = true := fun r hr ds hds => (h r hr).st ds hds
theorem mn_mk {CL : Addr} {H : Hp} {D lib : Addr} {kvs : List (Key × V)} {L M : Lib} (hd : H D = some (.dK kvs)) (hk : LKv H kvs M) (hm : ∀ r ∈ M, ProgV r.2) (hl : LbAt CL H lib L) (lv : LibV L) (ne : ∀ dx dd, H lib = some (.ins CL dx [("initializers", .ref dd)]) → dd ≠ D) : MnAt CL H D lib kvs L M := by
  refine ⟨hd, hk, fun od => lkv_keep (dtAll_locked hd od) (prog_steps hm) hk, fun od => ?_, hl⟩
  obtain ⟨dx, dd, kv, h1, h2, h3⟩ := hl.ob
  exact ⟨dx, dd, kv, by rw [upd_ne (fun e => by rw [e, hd] at h1; cases h1)]; exact h1, by rw [upd_ne (ne dx dd h1)]; exact h2, lkv_keep (dtAll_locked hd od) (prog_steps lv.ok) h3⟩
theorem MnAt.ex {CL : Addr} {H H' : Hp} {D lib : Addr} {kvs : List (Key × V)} {L M : Lib} (h : MnAt CL H D lib kvs L M) (e : Ex H H') : MnAt CL H' D lib kvs L M := by
  have el : ∀ od, Ex (upd H D (.frz od (.dK kvs))) (upd H' D (.frz od (.dK kvs))) := fun od a o ha => by
    by_cases ea : a = D
    · rw [ea, upd_same] at ha ⊢
      exact ha
    · rw [upd_ne ea] at ha ⊢
      exact e _ _ ha
  exact ⟨e _ _ h.d, DtKv.ex e h.k, fun od => DtKv.ex (el od) (h.lk od), fun od => (h.ll od).ex (el od), h.l.ex e⟩
def spChkM (CL : Addr) : Sp := fun vs H Q _ => ∃ D lib kvs L M, vs = [.ref lib, .ref D] ∧ MnAt CL H D lib kvs L M ∧ MainsV L M ∧ ∀ H', Ex H H' → Q .non H'
section
variable {P : Program} {w : World} {K : PySem.W.Frag} {mg : Str → Option Value} {base : Heap}
theorem ok_chkM {f CP CL : Addr} {fd : FuncData} {k : Nat} (F : Fun K "check_mains" "check_mains" sChkM f fd) (B : Blt mg) (TL : LbC K mg CL) {tM : Tok} (gM : mg "MOST_MAINS" = some (.int 8 tM)) (h1 : HasO P w K mg base k "is_name" ["value"] (spD isName)) (h2 : HasE P w K mg base k "check_steps" ["value", "is_main", "modules"] (spSteps CP)) (h3 : HasM P w K mg base CX0 k CL "modules" ["self"] (spLMods CL)) :
    FnOk P w K mg base CX0 (k + 1) f fd ["library", "mains"] (spChkM CL) := by
  obtain ⟨f1, d1, G1, b1, k1, g1⟩ := h1.ex
  obtain ⟨f2, d2, G2, b2, k2, g2⟩ := h2.ex
  obtain ⟨f3, d3, G3, b3, m3⟩ := h3.ex
  refine F.ok scChkM (fun vs H Q E h => by obtain ⟨_, _, _, _, _, rfl, _⟩ := h; rfl) (fun cdv A outer s H vs Q E hr h => ?_)
  obtain ⟨D, lib, kvs, L, M, rfl, mn, mv, q⟩ := h
  have hu := hu_of hr
  refine ⟨_, pss_cons (ps_if (PW.pt (pw_or (pt_not (pt_val (pe_callB call_isi (by rfl) B.isi bIsi (pa_cons (pv 1) (pa_cons (pe_bltn (v := .ty "dict") (by rfl) B.dict bDict rfl) pa_nil))))) (pw_or1 (pt_cmpR op_gt (pe_callB call_lenD (by rfl) B.len bLen (pa_cons (pv 1) pa_nil)) (pe_glob (v := .int 8) (by rfl) gM ⟨_, rfl⟩) (nomark _))))) pss_dead' pss_nil)
    (pss_one (ps_lock (ps_for PassesOwn.never rfl (pi_keys (pv 1)) (pg_name (i := 2) scChkM.nd rfl (.inl rfl))
      (pss_cons (ps_if (pt_not (pt_val (pe_call (E := E0) G1 hr (by rfl) g1 k1 b1 .nil pass0 (pa_cons (pv 2) pa_nil)))) pss_dead' pss_nil)
      (pss_one (ps_try_thru0 (pss_one (ps_expr (pe_call (E := E0) G2 hr (by rfl) g2 k2 b2 .nil passL (pa_cons (pe_dget hu (pv 1) (pv 2) (fun _ _ => rfl)) (pa_cons pe_bl (pa_cons (pe_meth0 (E := E0) (pv 0) TL.cl m3 G3 hr b3 .nil pass0) pa_nil)))))))))))), ?_⟩
  have dL : Dt H (.ref D) (libD M) := .dct mn.d mn.k
  have lk := lkv_len mn.k
  have l8 := mv.l8
  refine q_when (b := false) (et_is (et_or (et_not (et_B (ev_cb (ea_cons (ev_var rfl) (ea_cons ev_c ea_nil)) (rc_isi dL (by decide))))) fun _ => et_test (ev_op (ev_cb (ea_cons (ev_var rfl) ea_nil) (z := .int (kvs.length : Int)) (fun H3 e3 Q q => ⟨D, kvs, rfl, e3 _ _ mn.d, q H3 (Ex.refl H3)⟩)) ev_c rv_I0)) (by
    rw [lk, decide_eq_false (show ¬ ((M.length : Int) > 8) by omega)]
    rfl)) (fun z => nomatch z) (fun _ H1 e1 => ?_)
  have mn1 := mn.ex e1
  refine ⟨D, .dK kvs, mn1.d, trivial, fun od => ?_⟩
  refine ⟨.ref D, rfl, D, od, rfl, .inl ⟨kvs, upd_same, for_it walk_keys (fun m σ' H' => (∃ y2 y3, σ' = [some (.ref lib), some (.ref D), y2, y3]) ∧ Ex (upd H1 D (.frz od (.dK kvs))) H') ⟨⟨_, _, rfl⟩, Ex.refl _⟩ (fun m σ' H' _ hP => hP.2 _ _ upd_same) (fun m u σ' H' H'' hm hP hY => ?_) (fun σ' H6 hP => ?_)⟩⟩
  rotate_left
  · obtain ⟨_, e6⟩ := hP
    exact ⟨e6 _ _ upd_same, q _ (e1.trans (ex_unlock mn1.d e6))⟩
  obtain ⟨⟨y2, y3, rfl⟩, e2⟩ := hP
  obtain ⟨rfl, k0, v0, hk0, rfl⟩ := hY
  have hml : m < M.length := by omega
  obtain ⟨v, hv, dv⟩ := lkv_get (mn1.lk od) (List.getElem?_eq_getElem hml)
  rw [hk0] at hv
  cases hv
  have hin := List.getElem_mem hml
  have nm := mv.nm _ hin
  have nm' : isName (.str M[m].1) = true := nm
  have pvm := mv.ok _ hin
  obtain ⟨v', hv', dv'⟩ := lkv_at (n := M[m].1) (mn1.lk od) (List.mem_map_of_mem (f := (·.1)) hin)
  rw [progL_in mv.nd hin] at dv'
  refine q_when (b := false) (et_is (et_not (et_B (ev_call (ea_cons (ev_var rfl) ea_nil) (spv_D (.str M[m].1) (nm_sm nm))))) (by rw [nm']; rfl)) (fun z => nomatch z) (fun _ H3 e3 => ?_)
  have e23 := e2.trans e3
  have lb3 := (mn1.ll od).ex e23
  obtain ⟨dxl, dd, kvl, o1, _, _⟩ := lb3.ob
  refine ⟨.ref D, rfl, .str M[m].1, rfl, D, v', rfl, .inl ⟨kvs, .inr M[m].1, .inr ⟨od, e23 _ _ upd_same⟩, rfl, hv'.symm⟩, ?_⟩
  refine ⟨.ref lib, rfl, lib, dxl, _, rfl, o1, by rfl, lib, L, rfl, lb3, fun l H4 zl e4 hl => ?_⟩
  refine ⟨v', progD M[m].2, true, .ref l, some ((L.map (·.1)).map V.str), rfl, Dt.ex (e23.trans e4) dv', prog_sm pvm, ⟨l, rfl, hl, flat_strs _⟩, fun _ H5 e5 => ⟨⟨_, _, rfl⟩, (e23.trans e4).trans e5⟩, fun i hi => ?_⟩
  rw [due_main pvm (mv.mi _ hin) (mv.ne _ hin)] at hi
  cases hi
end
end Cr
/-! plain runs: the row of a main program, all main programs one after another -/
namespace Cr
open PySem PySem.Spec PyProof.Rows L2 Evl
abbrev sMRow : Stmt := topS 36
abbrev nMRow : List Str := ["name", "status", "variables", "variable"]
theorem scMRow : FnScope nMRow ["name", "status", "variables"] (defScope sMRow) := ⟨rfl, rfl, rfl, by decide +kernel, rfl, by decide +kernel, by decide +kernel⟩
def M4.ints (m : M4) : List PyData := [.int m.a, .int m.b, .int m.c, .int m.d]
def rowM (n st : Str) (m : M4) : PyData := .tuple [.str n, .str st, .tuple m.ints]
def spMRow : Sp := fun vs H Q _ => ∃ (n st : Str) (d : Addr) (m : M4), vs = [.str n, .str st, .ref d] ∧ H d = some (.dK m.kv) ∧ ∀ v H', Ex H H' → Dt H' v (rowM n st m) → Q v H'
section
variable {P : Program} {w : World} {K : PySem.W.Frag} {mg : Str → Option Value} {base : Heap}
theorem ok_mrow {f aV : Addr} {fd : FuncData} {k : Nat} (F : Fun K "main_row" "main_row" sMRow f fd) (B : Blt mg) (gV : mg "VARIABLES" = some (.ref aV)) (tV : KTup K aV (vars4.map V.str)) : FnOk P w K mg base CX0 (k + 1) f fd ["name", "status", "variables"] spMRow := by
  refine F.ok scMRow (fun vs H Q E h => by obtain ⟨_, _, _, _, rfl, _⟩ := h; rfl) (fun cdv A outer s H vs Q E hr h => ?_)
  obtain ⟨n, st, d, m, rfl, hd, q⟩ := h
  have hu := hu_of hr
  refine ⟨_, pss_one (ps_ret (pe_tup (pa_cons (pv 0) (pa_cons (pv 1) (pa_cons (pe_callTy call_tuple_of (by rfl) B.tuple bTuple (pa_cons (pe_lc (own := [("variable", 3)]) (g := gName 3) (tt := tYes) (te := tDGet (tVar 2) (tVar 3)) rfl scMRow.nd (pi_tup (pe_glob (v := .ref aV) (by rfl) gV rfl)) (blkOk_by (own := [("variable", 3)]) (N := nMRow) (sc := defScope sMRow) (by decide +kernel))
    (fun _ _ _ _ _ => pg_name (i := 3) scMRow.nd rfl (Or.inl rfl)) (fun _ _ _ _ _ => pts_nil) (fun _ _ _ _ _ => by exact pe_dget hu (pv 2) (pv 3) (fun _ _ => rfl))) pa_nil)) pa_nil))))), ?_⟩
  have lc := el_lcW (wi := iTup K (tC (.ref aV))) (g := gName 3) (tt := tYes) (te := tDGet (tVar 2) (tVar 3)) (vs := [3]) (σ := [some (.str n), some (.str st), some (.ref d), none]) (H := H) (n := (vars4.map V.str).length) (Y := YAt (vars4.map V.str)) (fun _ => true) (fun i => .int (m.get (vars4.getD i ("" : Str)))) (by decide)
    (fun H2 e2 R r => ⟨aV, rfl, ⟨_, tV.sq⟩, r H2 _ _ (walk_tup (K := K) (a := aV) (xs := vars4.map V.str)) (fun _ _ e z => ex_t e z) (Ex.refl H2) tV.sq⟩)
    (fun i y H2 H3 e2 hi hy => by
      obtain ⟨rfl, hy⟩ := hy
      have i4 : i = 0 ∨ i = 1 ∨ i = 2 ∨ i = 3 := by
        have e4 : (vars4.map V.str).length = 4 := rfl
        omega
      have go : ∀ x : Str, y = .str x → isVar (.str x) = true → vars4.getD i ("" : Str) = x → Ex H3 H3 ∧ ∃ σ2, wipe σ2 [3] = wipe [some (V.str n), some (.str st), some (.ref d), none] [3] ∧ (∀ R : L2.St → Hp → Prop, R σ2 H3 → gName 3 y (wipe [some (V.str n), some (.str st), some (.ref d), none] [3]) H3 R) ∧ EvT tYes σ2 H3 true ∧ (true = true → Ev (tDGet (tVar 2) (tVar 3)) σ2 H3 (.int (m.get (vars4.getD i ("" : Str))))) := fun x ey hx ei => by
        subst ey
        rw [ei]
        exact ⟨Ex.refl _, [some (.str n), some (.str st), some (.ref d), some (.str x)], rfl, fun R r => r, fun H4 _ Q q => q H4 (Ex.refl H4), fun _ => ev_dget (x := x) (ev_var rfl) (ev_var rfl) (e2 _ _ hd) (m4_val m hx)⟩
      rcases i4 with rfl | rfl | rfl | rfl
      all_goals
        cases hy
        exact go _ rfl (by decide +kernel) rfl)
  have eg : given (vars4.map V.str).length (fun _ => true) (fun i => V.int (m.get (vars4.getD i ("" : Str)))) = [.int m.a, .int m.b, .int m.c, .int m.d] := by
    rw [given_all]
    rfl
  rw [eg] at lc
  have dts : ∀ H', DtAll H' [V.int m.a, .int m.b, .int m.c, .int m.d] m.ints := fun H' => .cons (.int _) (.cons (.int _) (.cons (.int _) (.cons (.int _) .nil)))
  have ev : EvD (tTup (tCons (tVar 0) (tCons (tVar 1) (tCons (tCB (rTupleOf K) (tCons (tLc (iTup K (tC (.ref aV))) (gName 3) tYes (tDGet (tVar 2) (tVar 3)) [3]) tNil)) tNil)))) [some (.str n), some (.str st), some (.ref d), none] H (rowM n st m) :=
    evd_tup (evda_cons (evd_var rfl (.str n)) (evda_cons (evd_var rfl (.str st)) (evda_cons (fun H1 e1 Q1 q1 => eu_tupleOf lc H1 e1 _ fun t H2 z2 e2 h2 => q1 _ H2 e2 (.tup h2 (dts H2))) evda_nil))) (by show 3 ≤ 1000; decide)
  exact ev H (Ex.refl H) _ fun v H1 e1 hv => q v H1 e1 hv
end
end Cr
/-! plain runs: run_mains -/
namespace Cr
open PySem PySem.Spec PyProof.Rows L2 Evl
abbrev sRunMs : Stmt := topS 41
abbrev nRunMs : List Str := ["library", "mains", "plain", "rows", "name", "frame", "status"]
theorem scRunMs : FnScope nRunMs ["library", "mains"] (defScope sRunMs) := ⟨rfl, rfl, rfl, by decide +kernel, rfl, by decide +kernel, by decide +kernel⟩
abbrev MEnd := Str × Bool × M4
def stE (b : Bool) : Str := if b then "ended" else "failed"
def rowE (e : MEnd) : PyData := rowM e.1 (stE e.2.1) e.2.2
def mainsS (ini : ScF) : Lib → Sc → Option (List MEnd × Sc)
  | [], s => some ([], s)
  | r :: M, s => match execS ini none (vsP r.2) ((vsP r.2).length + 1) 0 .zero [] s with
    | .error _ => none
    | .ok (b, m, s') => (mainsS ini M s').map fun z => ((r.1, b, m) :: z.1, z.2)
theorem mains_cons {ini : ScF} {r : Str × Prog} {M : Lib} {s s' : Sc} {es : List MEnd} (h : mainsS ini (r :: M) s = some (es, s')) : ∃ b m s1 es1, execS ini none (vsP r.2) ((vsP r.2).length + 1) 0 .zero [] s = .ok (b, m, s1) ∧ mainsS ini M s1 = some (es1, s') ∧ es = (r.1, b, m) :: es1 := by
  unfold mainsS at h
  cases hx : execS ini none (vsP r.2) ((vsP r.2).length + 1) 0 .zero [] s with
  | error c => rw [hx] at h; cases h
  | ok z =>
    obtain ⟨b, m, s1⟩ := z
    rw [hx] at h
    dsimp only at h
    cases hm : mainsS ini M s1 with
    | none => rw [hm] at h; cases h
    | some z =>
      obtain ⟨es1, s2⟩ := z
      rw [hm] at h
      cases h
      exact ⟨b, m, s1, es1, rfl, hm, rfl⟩
/-- a row in the heap -/
def RowAt (H : Hp) (v : V) (e : MEnd) : Prop := ∃ t t4, v = .ref t ∧ H t = some (.tup [.str e.1, .str (stE e.2.1), .ref t4]) ∧ H t4 = some (.tup [.int e.2.2.a, .int e.2.2.b, .int e.2.2.c, .int e.2.2.d])
theorem RowAt.tps {H H' : Hp} (t : Tps H H') {v : V} {e : MEnd} (h : RowAt H v e) : RowAt H' v e := by
  obtain ⟨a, b, h1, h2, h3⟩ := h
  exact ⟨a, b, h1, t _ _ h2, t _ _ h3⟩
theorem RowAt.dt {H : Hp} {v : V} {e : MEnd} (h : RowAt H v e) : Dt H v (rowE e) := by
  obtain ⟨a, b, rfl, h2, h3⟩ := h
  exact .tup h2 (.cons (.str _) (.cons (.str _) (.cons (.tup h3 (.cons (.int _) (.cons (.int _) (.cons (.int _) (.cons (.int _) .nil))))) .nil)))
theorem rowAt_of {H : Hp} {v : V} {e : MEnd} (h : Dt H v (rowE e)) : RowAt H v e := by
  unfold rowE rowM M4.ints at h
  obtain ⟨a, rfl⟩ : ∃ a, v = .ref a := by cases h; exact ⟨_, rfl⟩
  obtain ⟨xs, h1, h2⟩ := dt_tup h
  cases h2 with
  | cons a1 r1 =>
    cases a1
    cases r1 with
    | cons a2 r2 =>
      cases a2
      cases r2 with
      | cons a3 r3 =>
        cases r3
        rename_i v3
        obtain ⟨b, rfl⟩ : ∃ b, v3 = .ref b := by cases a3; exact ⟨_, rfl⟩
        obtain ⟨ys, h3, h4⟩ := dt_tup a3
        cases h4 with
        | cons b1 q1 =>
          cases b1
          cases q1 with
          | cons b2 q2 =>
            cases b2
            cases q2 with
            | cons b3 q3 =>
              cases b3
              cases q3 with
              | cons b4 q4 =>
                cases b4
                cases q4
                exact ⟨a, b, rfl, h1, h3⟩
def RowsAt (H : Hp) : List V → List MEnd → Prop
  | [], [] => True
  | v :: vs, e :: es => RowAt H v e ∧ RowsAt H vs es
  | _, _ => False
theorem RowsAt.tps {H H' : Hp} (t : Tps H H') : ∀ {vs : List V} {es : List MEnd}, RowsAt H vs es → RowsAt H' vs es
  | [], [], _ => trivial
  | _ :: _, _ :: _, h => ⟨h.1.tps t, RowsAt.tps t h.2⟩
theorem RowsAt.snoc {H : Hp} {v : V} {e : MEnd} (hv : RowAt H v e) : ∀ {vs : List V} {es : List MEnd}, RowsAt H vs es → RowsAt H (vs ++ [v]) (es ++ [e])
  | [], [], _ => ⟨hv, trivial⟩
  | _ :: _, _ :: _, h => ⟨h.1, RowsAt.snoc hv h.2⟩
theorem RowsAt.dts {H : Hp} : ∀ {vs : List V} {es : List MEnd}, RowsAt H vs es → DtAll H vs (es.map rowE)
  | [], [], _ => .nil
  | _ :: _, _ :: _, h => .cons h.1.dt (RowsAt.dts h.2)
theorem RowsAt.len {H : Hp} : ∀ {vs : List V} {es : List MEnd}, RowsAt H vs es → vs.length = es.length
  | [], [], _ => rfl
  | _ :: _, _ :: _, h => by rw [List.length_cons, List.length_cons, RowsAt.len h.2]
/-- a main program beside the library -/
theorem main_kn {L M : Lib} {labs : List Str} (mv : MainsV L M) {r : Str × Prog} (hr : r ∈ M) : PgU labs L none (vsP r.2) := by
  have pv := mv.ok r hr
  have back : ∀ us ∈ vsP r.2, ∃ ds ∈ r.2, us.map flD = ds := fun us hu => by
    obtain ⟨ds, hds, rfl⟩ := List.mem_map.mp hu
    exact ⟨ds, hds, (step_vs (pv.st ds hds)).1⟩
  have nex : ∀ us ∈ vsP r.2, ∀ a b, us ≠ [.str "export", .str a, .str b] := fun us hu a b e => by
    obtain ⟨ds, hds, e2⟩ := back us hu
    have z := mv.ne r hr ds hds
    rw [← e2, e] at z
    have z : (("export" : Str) == "export") = false := z
    rw [beq_self_eq_true] at z
    cases z
  refine ⟨by rw [vsP_len]; exact pv.len, vsP_v pv, vsP_fits pv, ⟨vsP_or pv, fun us hu x hx => ?_, fun us hu a b e => absurd e (nex us hu a b)⟩, fun _ => nex⟩
  obtain ⟨ds, hds, e2⟩ := back us hu
  rw [e2] at hx
  have z := mv.mi r hr ds hds
  unfold okMod at z
  rw [hx] at z
  exact of_decide_eq_true z
def s0S : Sc := ⟨[], [], []⟩
theorem wf0 : WfS s0S := ⟨(fun _ h => nomatch h), (fun _ h => nomatch h), List.nodup_nil, List.nodup_nil, (fun _ h => nomatch h)⟩
theorem nm0 (names labs : List Str) : NmS names labs s0S := ⟨(fun _ h => nomatch h), List.nodup_nil, (fun _ h => nomatch h), (fun _ h => nomatch h), (fun _ h => nomatch h)⟩
theorem stE_rows {es : List MEnd} : ∀ d ∈ es.map rowE, d.depth ≤ 5 := fun d hd => by
  obtain ⟨e, _, rfl⟩ := List.mem_map.mp hd
  show PyData.depth (.tuple [.str _, .str _, .tuple [.int _, .int _, .int _, .int _]]) ≤ 5
  simp [PyData.depth, PyData.depthAll]
end Cr
/-! data all of whose parts are new -/
namespace Cr
open PySem PySem.Spec PyProof.Rows L2 Evl
/-- the part of a heap that the older one doesn't know -/
def nwH (H0 H : Hp) : Hp := fun a => match H0 a with
  | none => H a
  | some _ => none
theorem nw_some {H0 H : Hp} {a : Addr} {o : HO} (h : nwH H0 H a = some o) : H0 a = none ∧ H a = some o := by
  unfold nwH at h
  cases e : H0 a with
  | none => rw [e] at h; exact ⟨rfl, h⟩
  | some u => rw [e] at h; cases h
theorem nw_at {H0 H : Hp} {a : Addr} {o : HO} (h0 : H0 a = none) (h : H a = some o) : nwH H0 H a = some o := by
  unfold nwH
  rw [h0]
  exact h
theorem nw_ex (H0 H : Hp) : Ex (nwH H0 H) H := fun _ _ h => (nw_some h).2
theorem nw_mono {H0 H1 H H' : Hp} (e0 : Ex H0 H1) (e : Ex H H') : Ex (nwH H1 H) (nwH H0 H') := fun a o h => by
  obtain ⟨h1, h2⟩ := nw_some h
  exact nw_at (fresh_back e0 h1) (e a o h2)
theorem nw_up {H0 H H' : Hp} (e : Ex H H') : Ex (nwH H0 H) (nwH H0 H') := nw_mono (Ex.refl H0) e
/-- an expression that gives data of new parts -/
def EvDN (te : TE) (σ : L2.St) (H : Hp) (d : PyData) : Prop := ∀ H1, Ex H H1 → ∀ Q : VK, (∀ v H2, Ex H1 H2 → Dt (nwH H1 H2) v d → Q v H2) → te σ H1 Q
def EvDNA (ta : TA) (σ : L2.St) (H : Hp) (ds : List PyData) : Prop := ∀ H1, Ex H H1 → ∀ Q : List V → Hp → Prop, (∀ vs H2, Ex H1 H2 → DtAll (nwH H1 H2) vs ds → Q vs H2) → ta σ H1 Q
section
variable {te : TE} {ta : TA} {σ : L2.St} {H : Hp} {v : V} {d : PyData} {ds : List PyData}
theorem EvDN.dd (h : EvDN te σ H d) : EvD te σ H d := fun H1 e Q q => h H1 e Q fun v H2 e2 hd => q v H2 e2 (Dt.ex (nw_ex _ _) hd)
theorem evdn_of (h : Ev te σ H v) (hd : ∀ H, Dt H v d) : EvDN te σ H d := fun H1 e Q q => h H1 e _ fun H2 e2 => q v H2 e2 (hd _)
theorem evdna_nil : EvDNA tNil σ H [] := fun H1 e Q q => q [] H1 (Ex.refl H1) .nil
theorem evdna_cons (h1 : EvDN te σ H d) (h2 : EvDNA ta σ H ds) : EvDNA (tCons te ta) σ H (d :: ds) := fun H1 e Q q =>
  h1 H1 e _ fun v H2 e2 hv => h2 H2 (e.trans e2) _ fun vs H3 e3 hvs => q (v :: vs) H3 (e2.trans e3) (.cons (Dt.ex (nw_up e3) hv) (DtAll.ex (nw_mono e2 (Ex.refl H3)) hvs))
theorem evdn_tup (h : EvDNA ta σ H ds) (hl : ds.length ≤ 1000) : EvDN (tTup ta) σ H (.tuple ds) := fun H1 e Q q =>
  h H1 e _ fun vs H2 e2 hvs => ⟨Nat.le_trans (Nat.le_of_eq (dtAll_len hvs)) (Nat.le_trans hl (by decide)), fun l hl' => q (.ref l) _ (e2.trans (Ex.new hl')) (.tup (nw_at (fresh_back e2 hl') upd_same) (DtAll.ex (nw_up (Ex.new hl')) hvs))⟩
/-- tuple(a new list) -/
theorem evdn_tupleOf {K : PySem.W.Frag} (h : EvDN te σ H (.list ds)) : EvDN (tCB (rTupleOf K) (tCons te tNil)) σ H (.tuple ds) := fun H1 e Q q =>
  h H1 e _ fun v H2 e2 hv => by
    obtain ⟨a, xs, rfl, ha, hx⟩ := dt_lst hv
    refine ⟨a, xs, rfl, .inl ⟨sq_of (nw_ex _ _ _ _ ha), fun t ht => ?_⟩⟩
    exact q (.ref t) _ (e2.trans (Ex.new ht)) (.tup (nw_at (fresh_back e2 ht) upd_same) (DtAll.ex (nw_up (Ex.new ht)) hx))
end
/-- a comprehension whose members are data of new parts -/
theorem evdn_lc {wi : TI} {g : TG} {tt : TT} {te : TE} {vs : List Nat} {σ : L2.St} {H : Hp} {n : Nat} {Y : Nat → Hp → V → Hp → Prop}
    (f : Nat → Bool) (v : Nat → PyData) (hn : n ≤ 40000)
    (hi : ∀ H1, Ex H H1 → ∀ R : It → Hp → Prop, (∀ H2 (J : It) (G : Hp → Prop), Walk J n G Y → (∀ H3 H4, Ex H3 H4 → G H3 → G H4) → Ex H1 H2 → G H2 → R J H2) → wi σ H1 R)
    (hs : ∀ i x H1 H2, Ex H H1 → i < n → Y i H1 x H2 → Ex H1 H2 ∧ ∃ σ2, wipe σ2 vs = wipe σ vs ∧ (∀ R : L2.St → Hp → Prop, R σ2 H2 → g x (wipe σ vs) H2 R) ∧ EvT tt σ2 H2 (f i) ∧ (f i = true → EvDN te σ2 H2 (v i))) :
    EvDN (tLc wi g tt te vs) σ H (.list (((List.range n).filter f).map v)) := fun H0 e Q q => by
  refine hi H0 e _ fun H1 J G w hG e1 g1 D hD => ?_
  refine lc_it w (fun i H2 => ∃ acc, H2 D = some (.lst acc) ∧ DtAll (wo D (nwH H0 H2)) acc (((List.range i).filter f).map v) ∧ Ex H1 (wo D H2)) ⟨[], upd_same, .nil, fun b o hb => by rw [wo_ne (ne_of_none hb hD), upd_ne (ne_of_none hb hD)]; exact hb⟩ (fun i H2 _ p => ?_) (fun i x H2 H3 hlt p y => ?_) (fun H2 p => ?_)
  · obtain ⟨_, _, _, ex2⟩ := p
    exact hG H1 H2 (ex2.trans (wo_ex D H2)) g1
  · obtain ⟨acc, hacc, hdt, ex2⟩ := p
    have low := ex2.trans (wo_ex D H2)
    obtain ⟨e2, σ2, hw, hgo, ht, he⟩ := hs i x H2 H3 ((e.trans e1).trans low) hlt y
    refine hgo _ ⟨hw, ht H3 (Ex.refl H3) _ fun H4 e4 => ?_⟩
    have e24 := e2.trans e4
    have la := dtAll_len hdt
    have lf := List.length_filter_le f (List.range i)
    rw [List.length_map] at la
    rw [List.length_range] at lf
    cases hf : f i with
    | true =>
      rw [if_pos rfl]
      refine he hf H4 e4 _ fun u H5 e5 hu => ?_
      have e25 := e24.trans e5
      have hD5 := e25 _ _ hacc
      refine ⟨acc, hD5, by rw [sizeLine_eq]; omega, acc ++ [u], upd_same, ?_, fun b o hb => by rw [wo_ne (ne_of_none hb hD), upd_ne (ne_of_none hb hD)]; exact e25 _ _ (low _ _ hb)⟩
      have exD : Ex (wo D (nwH H0 H2)) (wo D (nwH H0 (upd H5 D (.lst (acc ++ [u]))))) := fun b o hb => by
        obtain ⟨n1, hb⟩ := wo_some hb
        obtain ⟨n2, hb⟩ := nw_some hb
        rw [wo_ne n1]
        exact nw_at n2 (by rw [upd_ne n1]; exact e25 _ _ hb)
      have exN : Ex (nwH H4 H5) (wo D (nwH H0 (upd H5 D (.lst (acc ++ [u]))))) := fun b o hb => by
        obtain ⟨n2, hb⟩ := nw_some hb
        have n1 : b ≠ D := fun z => by rw [z, e24 _ _ hacc] at n2; cases n2
        rw [wo_ne n1]
        exact nw_at (fresh_back (e1.trans (low.trans e24)) n2) (by rw [upd_ne n1]; exact hb)
      rw [List.range_succ, List.filter_append, List.filter_cons_of_pos hf, List.filter_nil, List.map_append]
      exact dtAll_app (DtAll.ex exD hdt) (.cons (Dt.ex exN hu) .nil)
    | false =>
      rw [if_neg Bool.false_ne_true]
      refine ⟨acc, e24 _ _ hacc, ?_, fun b o hb => by rw [wo_ne (ne_of_none hb hD)]; exact e24 _ _ (low _ _ hb)⟩
      rw [List.range_succ, List.filter_append, List.filter_cons_of_neg (by rw [hf]; decide), List.filter_nil, List.append_nil]
      exact DtAll.ex (Ex.wo (nw_up e24)) hdt
  · obtain ⟨acc, hacc, hdt, ex2⟩ := p
    exact q (.ref D) H2 (e1.trans (ex2.trans (wo_ex D H2))) (.lst (nw_at (fresh_back e1 hD) hacc) (DtAll.ex (wo_ex D _) hdt))
/-- over a list of names -/
theorem evdn_lcS {K : PySem.W.Frag} {tl te : TE} {σ : L2.St} {H : Hp} {j : Nat} {ns : List Str} (v : Str → PyData) (hl : EvL tl σ H (ns.map V.str)) (hz : ns.length ≤ 40000) (hw : ∀ x, wipe ((wipe σ [j]).set j (some x)) [j] = wipe σ [j])
    (ht : ∀ n ∈ ns, ∀ H1, Ex H H1 → EvDN te ((wipe σ [j]).set j (some (.str n))) H1 (v n)) : EvDN (tLc (iList K tl) (gName j) tYes te [j]) σ H (.list (ns.map v)) := by
  have lc := evdn_lc (wi := iList K tl) (g := gName j) (tt := tYes) (te := te) (vs := [j]) (σ := σ) (H := H) (n := ns.length) (Y := YAt (ns.map V.str)) (fun _ => true) (fun i => v (ns.getD i "")) hz
    (fun H1 e1 R r => hl H1 e1 _ fun a H2 _ e2 ha => by
      have w := walk_list (K := K) (a := a) (xs := ns.map V.str)
      rw [List.length_map] at w
      exact ⟨a, rfl, ⟨_, sq_of ha⟩, r H2 _ _ w (fun _ _ e z => ex_l e z) e2 (sq_of ha)⟩)
    (fun i y H1 H2 e1 hi hy => by
      obtain ⟨rfl, hy⟩ := hy
      rw [List.getElem?_map, List.getElem?_eq_getElem hi] at hy
      cases hy
      have gd : ns.getD i "" = ns[i] := by rw [List.getD_eq_getElem?_getD, List.getElem?_eq_getElem hi]; rfl
      have h2 := ht ns[i] (List.getElem_mem hi) H2 e1
      rw [gd]
      exact ⟨Ex.refl _, _, hw _, fun R r => r, fun H6 _ Q q => q H6 (Ex.refl H6), fun _ => h2⟩)
  have e : ((List.range ns.length).filter fun _ => true).map (fun i => v (ns.getD i "")) = ns.map v := by
    rw [List.filter_eq_self.mpr fun _ _ => rfl]
    refine List.ext_getElem (by rw [List.length_map, List.length_map, List.length_range]) fun i h1 h2 => ?_
    rw [List.length_map] at h2
    rw [List.getElem_map, List.getElem_map, List.getElem_range, List.getD_eq_getElem?_getD, List.getElem?_eq_getElem h2]
    rfl
  rw [e] at lc
  exact lc
end Cr
/-! plain runs: run_mains -/
namespace Cr
open PySem PySem.Spec PyProof.Rows L2 Evl
/-- the rows of the main programs, sorted -/
def rowsS (es : List MEnd) : List PyData := (es.map rowE).mergeSort (PySem.W.dataLe false id)
theorem rows_alike (es : List MEnd) : PySem.W.AllAlike (es.map rowE) := PySem.W.AllAlike.of fun e e' => by
  unfold rowE rowM M4.ints
  simp [PySem.W.alike, PySem.W.alikeAll]
theorem rows_sortable (es : List MEnd) : PySem.W.Sortable (es.map rowE) := PySem.W.Sortable.tuples fun e => ⟨_, _, rfl⟩
/-- the run, where the main programs are locked, and back -/
theorem ScAt.lock {CP CL p D : Addr} {H H1 : Hp} {L : Lib} {A : ScA} {s : Sc} {xs : Exs} {od : Obj} {kvs : List (Key × V)} (h : ScAt CP CL H H1 L p A s xs) (hd : H D = some (.dK kvs)) (ll : LbAt CL (upd H D (.frz od (.dK kvs))) A.lib L) : ScAt CP CL (upd H D (.frz od (.dK kvs))) (upd H1 D (.frz od (.dK kvs))) L p A s xs := by
  have hd1 := h.bx _ _ hd
  have nD : ∀ a ∈ ownS A xs, a ≠ D := fun a ha e => by
    have z := h.nb a ha
    rw [e, hd] at z
    cases z
  have pD : p ≠ D := fun e => by
    have z := h.ob
    rw [e, hd1] at z
    cases z
  refine ⟨by rw [upd_ne pD]; exact h.ob, by rw [upd_ne (nD _ in_O)]; exact h.op, by rw [upd_ne (nD _ in_R)]; exact h.rs, by rw [upd_ne (nD _ in_E)]; exact h.exd, h.exs, fun r hr => by rw [upd_ne (nD _ (in_I hr))]; exact h.ini r hr, h.nd, fun a ha => by rw [upd_ne (nD a ha)]; exact h.nb a ha, fun a o z => ?_, ll⟩
  by_cases e : a = D
  · rw [e, upd_same] at z ⊢
    exact z
  · rw [upd_ne e] at z ⊢
    exact h.bx _ _ z
theorem ScAt.unlock {CP CL p D : Addr} {H H1 : Hp} {L : Lib} {A : ScA} {s : Sc} {xs : Exs} {od : Obj} {kvs : List (Key × V)} (h : ScAt CP CL (upd H D (.frz od (.dK kvs))) H1 L p A s xs) (hd : H D = some (.dK kvs)) (ll : LbAt CL H A.lib L) : ScAt CP CL H (upd H1 D (.dK kvs)) L p A s xs := by
  have hd1 := h.bx _ _ upd_same
  have nD : ∀ a ∈ ownS A xs, a ≠ D := fun a ha e => by
    have z := h.nb a ha
    rw [e, upd_same] at z
    cases z
  have pD : p ≠ D := fun e => by
    have z := h.ob
    rw [e, hd1] at z
    cases z
  refine ⟨by rw [upd_ne pD]; exact h.ob, by rw [upd_ne (nD _ in_O)]; exact h.op, by rw [upd_ne (nD _ in_R)]; exact h.rs, by rw [upd_ne (nD _ in_E)]; exact h.exd, h.exs, fun r hr => by rw [upd_ne (nD _ (in_I hr))]; exact h.ini r hr, h.nd, fun a ha => by have z := h.nb a ha; rw [upd_ne (nD a ha)] at z; exact z, ex_unlock hd h.bx, ll⟩
/-- a new instance and its init -/
structure MkPr (P : Program) (w : World) (K : PySem.W.Frag) (mg : Str → Option Value) (base : Heap) (k : Nat) (C : Addr) : Prop where
  ex : ∃ f fd, Mk K C f ∧ FnOk P w K mg base CX0 k f fd ["self", "library"] (spPrI C) ∧ Binds K fd ["self", "library"] []
theorem if_st {b : Bool} {Q : VK} {σ : L2.St} {H : Hp} (q : Q (.str (stE b)) H) : if b = true then tC (.str "ended") σ H Q else tC (.str "failed") σ H Q := by cases b <;> exact q
def spRunMs (CP CL : Addr) (n : Nat) : Sp := fun vs H Q _ => ∃ D lib kvs L M labs es s', vs = [.ref lib, .ref D] ∧ MnAt CL H D lib kvs L M ∧ MainsV L M ∧ LibU labs L ∧ mainsS (initS L n) M s0S = some (es, s') ∧
  ∀ t p A xs rl H', H t = none → Ex H H' → H' t = some (.tup [.ref p, .ref rl]) → ScAt CP CL H H' L p A s' xs → WfS s' → NmS (L.map (·.1)) labs s' → Dt H' (.ref rl) (.list (rowsS es)) → Q (.ref t) H'
section
variable {P : Program} {w : World} {K : PySem.W.Frag} {mg : Str → Option Value} {base : Heap}
theorem ok_runMs {f C CL CF CE : Addr} {fd : FuncData} {k n : Nat} (F : Fun K "run_mains" "run_mains" sRunMs f fd) (B : Blt mg) (T : PrC K mg C) (TF : FrC K mg CF) (hk : 1 ≤ k)
    (h1 : HasO P w K mg base k "check_mains" ["library", "mains"] (spChkM CL)) (hM : MkPr P w K mg base (k - 1) C) (hF : MkF P w K mg base (k - 1) CF CE) (hE : HasM P w K mg base CX0 k C "execute" ["self", "module", "frame"] (spExec C CL CF n)) (h2 : HasO P w K mg base k "main_row" ["name", "status", "variables"] spMRow) (h3 : HasO P w K mg base k "bare_word" ["word"] spBareW) (hV : HasM P w K mg base CX0 k CF "variables" ["self"] (spVars CF)) :
    FnOk P w K mg base CX0 (k + 1) f fd ["library", "mains"] (spRunMs C CL n) := by
  obtain ⟨f1, d1, G1, b1, k1, g1⟩ := h1.ex
  obtain ⟨fM, dM, MM, GM, bM⟩ := hM.ex
  obtain ⟨fF, dF, MF, GF, bF⟩ := hF.ex
  obtain ⟨fE, dE, GE, bE, mE⟩ := hE.ex
  obtain ⟨f2, d2, G2, b2, k2, g2⟩ := h2.ex
  obtain ⟨f3, d3, G3, b3, k3, g3⟩ := h3.ex
  obtain ⟨fV, dV', GV, bV, mV⟩ := hV.ex
  refine F.ok scRunMs (fun vs H Q E h => by obtain ⟨_, _, _, _, _, _, _, _, rfl, _⟩ := h; rfl) (fun cdv A outer s H vs Q E hr h => ?_)
  obtain ⟨D, lib, kvs, L, M, labs, es, s', rfl, mn, mv, LU, hms, q⟩ := h
  have hu := hu_of hr
  have hrF := hr.mono (j := k - 1 + 1) (by omega)
  refine ⟨_, pss_cons (ps_expr (pe_call (E := E0) G1 hr (by rfl) g1 k1 b1 .nil pass0 (pa_cons (pv 0) (pa_cons (pv 1) pa_nil))))
    (pss_cons (ps_set (i := 2) scRunMs.nd rfl (.inl rfl) (pe_make (E := E0) MM GM hrF (by rfl) T.at_ bM .nil pass0 (pa_cons (pv 0) pa_nil)))
    (pss_cons (ps_set (i := 3) scRunMs.nd rfl (.inl rfl) (pe_lst pa_nil))
    (pss_cons (ps_lock (ps_for PassesOwn.never rfl (pi_keys (pv 1)) (pg_name (i := 4) scRunMs.nd rfl (.inl rfl))
      (pss_cons (ps_set (i := 5) scRunMs.nd rfl (.inl rfl) (pe_make (E := E0) MF GF hrF (by rfl) TF.at_ bF .nil passL (pa_cons (pe_dget hu (pv 1) (pv 4) (fun _ _ => rfl)) pa_nil)))
      (pss_cons (ps_set (i := 6) scRunMs.nd rfl (.inl rfl) (pe_ifExp (pt_val (pe_meth (E := E0) (pv 2) T.cl mE GE hr bE .nil pass0 (pa_cons pe_non (pa_cons (pv 5) pa_nil)))) pe_str pe_str))
      (pss_one (ps_expr (pe_bm PySem.F.plainAttrs_list PySem.F.slot_list_append PySem.F.type_list_append mt_append (pv 3) (pa_cons (pe_call (E := E0) G2 hr (by rfl) g2 k2 b2 .nil pass0 (pa_cons (pe_call (E := E0) G3 hr (by rfl) g3 k3 b3 .nil pass0 (pa_cons (pv 4) pa_nil)) (pa_cons (pv 6) (pa_cons (pe_meth0 (E := E0) (pv 5) TF.cl mV GV hr bV .nil pass0) pa_nil)))) pa_nil))))))))
    (pss_one (ps_ret (pe_tup (pa_cons (pv 2) (pa_cons (pe_callB (call_sortDt hr.units) (by rfl) B.sorted bSrt (pa_cons (pv 3) pa_nil)) pa_nil)))))))), ?_⟩
  have lk := lkv_len mn.k
  have l8 := mv.l8
  refine q_dropAny ⟨.ref lib, rfl, .ref D, rfl, D, lib, kvs, L, M, rfl, mn, mv, fun H1 e1 => ?_⟩
  have mn1 := mn.ex e1
  -- the run
  refine q_asgAny ?_
  refine ⟨.ref lib, rfl, fun p dx zp zdx ndp => ?_⟩
  have hp2 : (upd (upd H1 dx (.own p)) p (.ins C dx [])) p = some (.ins C dx []) := upd_same
  have e2 : Ex H1 (upd (upd H1 dx (.own p)) p (.ins C dx [])) := fun c o h => by
    rw [upd_ne (fun e => by rw [e, zp] at h; cases h), upd_ne (fun e => by rw [e, zdx] at h; cases h)]
    exact h
  have zp0 : H p = none := fresh_back e1 zp
  generalize upd (upd H1 dx (.own p)) p (.ins C dx []) = H2 at hp2 e2 ⊢
  refine ⟨p, dx, lib, rfl, hp2, fun aO aR aE H3 zO zR zE n1 n2 n3 hp3 hO hR hE b3 => ⟨rfl, ?_⟩⟩
  have e12 := e1.trans e2
  have e13 : Ex H H3 := fun c o h => b3 _ _ (fun z => by rw [List.mem_singleton.mp z, zp0] at h; cases h) (e12 _ _ h)
  have sc3 : ScAt C CL H H3 L p ⟨dx, lib, aO, aR, aE⟩ s0S [] := by
    refine ⟨hp3, hO, hR, hE, rfl, (fun r hr => nomatch hr), ?_, fun a ha => ?_, e13, mn.l⟩
    · show [aO, aR, aE].Nodup
      simp only [List.nodup_cons, List.mem_cons, List.not_mem_nil, or_false, not_or]
      exact ⟨⟨n1, n2⟩, n3, not_false, List.nodup_nil⟩
    · have ha : a ∈ [aO, aR, aE] := ha
      simp only [List.mem_cons, List.not_mem_nil, or_false] at ha
      rcases ha with rfl | rfl | rfl
      · exact fresh_back e12 zO
      · exact fresh_back e12 zR
      · exact fresh_back e12 zE
  generalize hA : (⟨dx, lib, aO, aR, aE⟩ : ScA) = A' at sc3
  have hAl : A'.lib = lib := by rw [← hA]
  clear hp3 hO hR hE b3 n1 n2 n3 zO zR zE hA
  show tSeq _ _ _ [some (.ref lib), some (.ref D), some (.ref p), none, none, none, none] H3
  refine q_asgAny ⟨Nat.zero_le _, fun rl zrl => ?_⟩
  show tSeq _ _ _ [some (.ref lib), some (.ref D), some (.ref p), some (.ref rl), none, none, none] (upd H3 rl (.lst []))
  have sc4 := sc3.ex (Ex.new (o := .lst []) zrl)
  have hrl4 : (upd H3 rl (.lst [])) rl = some (.lst []) := upd_same
  have nrl : rl ∉ p :: ownS A' [] := fun z => by
    rcases List.mem_cons.mp z with e | z
    · rw [e, sc3.ob] at zrl; cases zrl
    · obtain ⟨o, h1, _⟩ := sc3.own_some rl z
      rw [zrl] at h1; cases h1
  have zrl0 : H rl = none := fresh_back e13 zrl
  generalize upd H3 rl (.lst []) = H4 at sc4 hrl4 ⊢
  have hd4 := sc4.bx _ _ mn.d
  have nrD : rl ≠ D := fun e => by rw [e, hd4] at hrl4; cases hrl4
  refine ⟨D, .dK kvs, hd4, trivial, fun od => ?_⟩
  have scL := sc4.lock (od := od) mn.d (by rw [hAl]; exact mn.ll od)
  have hrl5 : (upd H4 D (.frz od (.dK kvs))) rl = some (.lst []) := by rw [upd_ne nrD]; exact hrl4
  refine ⟨.ref D, rfl, D, od, rfl, .inl ⟨kvs, upd_same, for_it walk_keys (fun m σ' H' => ∃ y4 y5 y6 s xs es0 vs es2, σ' = [some (.ref lib), some (.ref D), some (.ref p), some (.ref rl), y4, y5, y6] ∧ ScAt C CL (upd H D (.frz od (.dK kvs))) H' L p A' s xs ∧ WfS s ∧ NmS (L.map (·.1)) labs s ∧ H' rl = some (.lst vs) ∧ RowsAt H' vs es0 ∧ rl ∉ p :: ownS A' xs ∧ es0.length = m ∧ mainsS (initS L n) (M.drop m) s = some (es2, s') ∧ es = es0 ++ es2)
    ⟨_, _, _, s0S, [], [], [], es, rfl, scL, wf0, nm0 _ _, hrl5, trivial, nrl, rfl, by rw [List.drop_zero]; exact hms, rfl⟩ (fun m σ' H' _ hP => ?_) (fun m u σ' H' H'' hm hP hY => ?_) (fun σ' H6 hP => ?_)⟩⟩
  · obtain ⟨_, _, _, _, _, _, _, _, _, sc, _⟩ := hP
    exact sc.bx _ _ upd_same
  · obtain ⟨y4, y5, y6, s1, xs1, es0, vs, es2, rfl, sc, wf, nm, hrl, rows, nrl1, hl0, hms1, hes⟩ := hP
    obtain ⟨rfl, k0, v0, hk0, rfl⟩ := hY
    have hml : m < M.length := by omega
    obtain ⟨v, hv, dv⟩ := lkv_get (mn.lk od) (List.getElem?_eq_getElem hml)
    rw [hk0] at hv
    cases hv
    have hin := List.getElem_mem hml
    have nmm := mv.nm _ hin
    have pvm := mv.ok _ hin
    obtain ⟨v', hv', dv'⟩ := lkv_at (n := M[m].1) (mn.lk od) (List.mem_map_of_mem (f := (·.1)) hin)
    rw [progL_in mv.nd hin] at dv'
    have hdr : M.drop m = M[m] :: M.drop (m + 1) := List.drop_eq_getElem_cons hml
    rw [hdr] at hms1
    have pg := main_kn (labs := labs) mv hin
    generalize M[m] = r at hin nmm pvm hv' dv' hms1 pg
    obtain ⟨b, m1, s2, es3, hx, hms2, rfl⟩ := mains_cons hms1
    show tSeq _ _ _ [some (.ref lib), some (.ref D), some (.ref p), some (.ref rl), some (.str r.1), y5, y6] H''
    refine q_asgAny ⟨.ref D, rfl, .str r.1, rfl, D, v', rfl, .inl ⟨kvs, .inr r.1, .inr ⟨od, sc.bx _ _ upd_same⟩, rfl, hv'.symm⟩, fun x dx2 zx zdx nex => ?_⟩
    have e6 : Ex H'' (upd (upd H'' dx2 (.own x)) x (.ins CF dx2 [])) := fun c o h => by
      rw [upd_ne (fun e => by rw [e, zx] at h; cases h), upd_ne (fun e => by rw [e, zdx] at h; cases h)]
      exact h
    have hx6 : (upd (upd H'' dx2 (.own x)) x (.ins CF dx2 [])) x = some (.ins CF dx2 []) := upd_same
    generalize upd (upd H'' dx2 (.own x)) x (.ins CF dx2 []) = H6 at e6 hx6 ⊢
    have sc6 := sc.ex e6
    refine ⟨x, dx2, v', progD r.2, rfl, hx6, Dt.ex sc6.bx dv', prog_smL pvm, fun vss FA H7 he hst hl30 hdue fr7 zS zM zV b7 => ?_, fun i hi => by
      have hi : dueOf none false (.list (r.2.map PyData.tuple)) = some i := hi
      rw [prog_due pvm] at hi
      cases hi⟩
    have ev : vss = vsP r.2 := by
      refine stepsD_inj2 hst (vsP_v pvm) ?_
      rw [vsP_steps pvm]
      exact (PyData.list.inj he).symm
    subst ev
    refine ⟨rfl, ?_⟩
    have nx : x ∉ p :: ownS A' xs1 := fun z => by
      rcases List.mem_cons.mp z with e | z
      · rw [e, sc.ob] at zx; cases zx
      · obtain ⟨o, h1, _⟩ := sc.own_some x z
        rw [zx] at h1; cases h1
    have nn : ∀ {c : Addr}, H6 c = none → c ∉ p :: ownS A' xs1 := fun {c} hc z => by
      rcases List.mem_cons.mp z with e | z
      · rw [e, sc6.ob] at hc; cases hc
      · obtain ⟨o, h1, _⟩ := sc6.own_some c z
        rw [hc] at h1; cases h1
    have hBx : (upd H D (.frz od (.dK kvs))) x = none := fresh_back sc.bx zx
    have sc7 := sc6.but b7 (fun z => nx (by rw [← List.mem_singleton.mp z]; exact List.mem_cons_self)) (fun c hc z => nx (by rw [← List.mem_singleton.mp z]; exact List.mem_cons_of_mem _ hc)) (fun c hc => by rw [List.mem_singleton.mp hc]; exact hBx)
    have ap7 : FrAp (upd H D (.frz od (.dK kvs))) p A' xs1 x FA := by
      refine ⟨fun c hc => ?_, fun c hc => ?_⟩
      · simp only [List.mem_cons, List.not_mem_nil, or_false] at hc
        rcases hc with rfl | rfl | rfl | rfl
        · exact nx
        · exact nn zS
        · exact nn zM
        · exact nn zV
      · simp only [own, List.mem_cons, List.not_mem_nil, or_false] at hc
        rcases hc with rfl | rfl | rfl
        · exact hBx
        · exact fresh_back sc6.bx zM
        · exact fresh_back sc6.bx zV
    have rlx : rl ≠ x := fun e => by rw [e, zx] at hrl; cases hrl
    have hrl6 := e6 _ _ hrl
    have hrl7 : H7 rl = some (.lst vs) := b7 _ _ (fun z => rlx (List.mem_singleton.mp z)) hrl6
    have rlo : rl ∉ ownS A' xs1 ++ own x FA := fun z => by
      rcases List.mem_append.mp z with z | z
      · exact nrl1 (List.mem_cons_of_mem _ z)
      · simp only [own, List.mem_cons, List.not_mem_nil, or_false] at z
        rcases z with e | e | e
        · exact rlx e
        · rw [e, zM] at hrl6; cases hrl6
        · rw [e, zV] at hrl6; cases hrl6
    have rows7 : RowsAt H7 vs es0 := RowsAt.tps (tps_own b7 fun a ha ys z => by rw [List.mem_singleton.mp ha, hx6] at z; cases z) (RowsAt.tps (fun _ _ h => e6 _ _ h) rows)
    show tSeq _ _ _ [some (.ref lib), some (.ref D), some (.ref p), some (.ref rl), some (.str r.1), some (.ref x), y6] H7
    -- it is executed
    refine q_asgAny ⟨.ref p, rfl, p, A'.dx, _, rfl, sc7.ob, by rfl, .ref x, rfl, upd H D (.frz od (.dK kvs)), L, labs, p, A', s1, xs1, none, x, FA, vsP r.2, b, m1, s2, rfl, LU, sc7, wf, nm, fr7, ap7, pg, (fun z hz => nomatch hz), hx, fun xs3 H8 pos' k' sc8 fr8 b8 n8 => ⟨b, rfl, ?_⟩⟩
    have hrl8 : H8 rl = some (.lst vs) := b8 _ _ rlo hrl7
    have tp8 : Tps H7 H8 := tps_own b8 fun a ha ys z => by
      rcases List.mem_append.mp ha with ha | ha
      · obtain ⟨o, h1, h2, _⟩ := sc7.own_some a ha
        rw [h1] at z
        cases z
        exact h2 _ rfl
      · simp only [own, List.mem_cons, List.not_mem_nil, or_false] at ha
        obtain ⟨vis, v1, _⟩ := fr7.vi
        rcases ha with rfl | rfl | rfl
        · rw [fr7.ob] at z; cases z
        · rw [fr7.me] at z; cases z
        · rw [v1] at z; cases z
    have rows8 := RowsAt.tps tp8 rows7
    have nrl8 : rl ∉ p :: ownS A' xs3 := fun z => by
      rcases List.mem_cons.mp z with e | z
      · exact nrl1 (by rw [e]; exact List.mem_cons_self)
      · rcases n8 rl z with y | y
        · exact nrl1 (List.mem_cons_of_mem _ y)
        · rw [hrl7] at y; cases y
    obtain ⟨gr, w2⟩ := exec_gr (init_good LU.n.r n) pg.kn.po _ _ wf (by intro z hz; cases hz) (by intro z hz; cases hz) hx
    have nm2 := exec_nm (init_good LU.n.r n) (init_nm LU.n n) pg.kn _ _ wf nm (by intro z hz; cases hz) (by intro z hz; cases hz) hx
    refine if_st ?_
    have ln := (low_free nmm).1
    refine ⟨.ref rl, rfl, .inl ⟨rfl, _, sq_of hrl8⟩, .str r.1, rfl, r.1, rfl, by omega, fun H9 e9 => ⟨.str (stE b), rfl, .ref x, rfl, x, FA.dx, _, rfl, (fr8.ex e9).ob, by rfl, x, FA, vsP r.2, pos', m1, k', rfl, fr8.ex e9, fun d H10 zd e10 hd => ⟨r.1, stE b, d, m1, rfl, hd, fun v H11 e11 dv2 => ?_⟩⟩⟩
    have e811 := (e9.trans e10).trans e11
    have hrl11 := e811 _ _ hrl8
    have lv := RowsAt.len rows8
    refine ⟨rl, vs, v, rfl, rfl, hrl11, ?_, ?_⟩
    · rw [lv, hl0, sizeLine_eq]
      omega
    have row : RowAt H11 v (r.1, b, m1) := rowAt_of (by
      exact dv2)
    have b11 : But [rl] H8 (upd H11 rl (.lst (vs ++ [v]))) := (But.of e811).upd (by simp)
    have tp11 : Tps H11 (upd H11 rl (.lst (vs ++ [v]))) := fun a ys z => by
      rw [upd_ne (fun e => by rw [e, hrl11] at z; cases z)]
      exact z
    have sc9 := sc8.but b11 (fun z => nrl8 (by rw [← List.mem_singleton.mp z]; exact List.mem_cons_self)) (fun a ha z => nrl8 (by rw [← List.mem_singleton.mp z]; exact List.mem_cons_of_mem _ ha)) (fun a ha => by
      rw [List.mem_singleton.mp ha, upd_ne nrD]
      exact zrl0)
    exact ⟨_, _, _, s2, xs3, es0 ++ [(r.1, b, m1)], _, es3, rfl, sc9, w2, nm2, upd_same, RowsAt.snoc (row.tps tp11) ((RowsAt.tps (fun _ _ h => e811 _ _ h) rows8).tps tp11), nrl8, by rw [List.length_append, hl0]; rfl, hms2, by rw [hes, List.append_assoc]; rfl⟩
  · obtain ⟨y4, y5, y6, s1, xs1, es0, vs, es2, rfl, sc, wf, nm, hrl, rows, nrl1, hl0, hms1, hes⟩ := hP
    refine ⟨sc.bx _ _ upd_same, ?_⟩
    rw [show M.drop kvs.length = [] by rw [lk]; exact List.drop_length] at hms1
    cases hms1
    rw [List.append_nil] at hes
    subst hes
    have sc7 := sc.unlock mn.d (by rw [hAl]; exact mn.l)
    have hrl7 : (upd H6 D (.dK kvs)) rl = some (.lst vs) := by rw [upd_ne nrD]; exact hrl
    have rows7 : RowsAt (upd H6 D (.dK kvs)) vs es := RowsAt.tps (fun a ys z => by
      rw [upd_ne (fun e => by rw [e, sc.bx _ _ upd_same] at z; cases z)]
      exact z) rows
    generalize upd H6 D (.dK kvs) = H7 at sc7 hrl7 rows7 ⊢
    refine ⟨.ref p, rfl, .ref rl, rfl, rl, vs, es.map rowE, rfl, hrl7, rows7.dts, rows_alike es, rows_sortable es, stE_rows, fun ys S zS hys => ⟨by show 2 ≤ sizeLine; decide, fun t zt => ?_⟩⟩
    have e8 : Ex H7 (upd H7 S (.lst ys)) := Ex.new zS
    have e9 : Ex (upd H7 S (.lst ys)) (upd (upd H7 S (.lst ys)) t (.tup [.ref p, .ref S])) := Ex.new zt
    have sc9 := (sc7.ex e8).ex e9
    exact q t p A' xs1 S _ (fresh_back (sc7.bx.trans e8) zt) sc9.bx upd_same sc9 wf nm (.lst (e9 _ _ upd_same) (DtAll.ex (e8.trans e9) hys))
end
end Cr
/-! plain runs (pure): what a module exports are labels of its program -/
namespace Cr
open PySem PySem.Spec PyProof.Rows L2 Evl
def labU : List V → Option Str
  | [.str z, .str a, .str _] => if z = "export" then some a else none
  | _ => none
def labP (p : Prog) : List Str := (vsP p).filterMap labU
theorem labP_len (p : Prog) : (labP p).length ≤ p.length := by
  unfold labP
  refine Nat.le_trans (List.length_filterMap_le _ _) ?_
  rw [vsP_len]
  exact Nat.le_refl _
def LbS (L : Lib) (s : Sc) : Prop := ∀ r ∈ s.ex, ∀ k ∈ keysA r.2, k ∈ labP (progL L r.1)
def GoodL (L : Lib) (ini : ScF) : Prop := ∀ s md b s', WfS s → LbS L s → ini s md = .ok (b, s') → LbS L s'
def OwnL (L : Lib) (me : Option Str) (vss : List (List V)) : Prop := ∀ n, me = some n → ∀ us ∈ vss, ∀ a b, us = [.str "export", .str a, .str b] → a ∈ labP (progL L n)
theorem ownL_of (L : Lib) (n : Str) : OwnL L (some n) (vsP (progL L n)) := fun n' e us hu a b eu => by
  cases e
  refine List.mem_filterMap.mpr ⟨us, hu, ?_⟩
  rw [eu]
  show (if ("export" : Str) = "export" then some a else none) = some a
  exact if_pos rfl
theorem ownL_none (L : Lib) (vss : List (List V)) : OwnL L none vss := fun n e => nomatch e
theorem exp_lb {L : Lib} {s : Sc} {me : Option Str} {l : Str} {i : Int} (lb : LbS L s) (hl : ∀ n, me = some n → l ∈ labP (progL L n)) (hme : ∀ n, me = some n → n ∈ keysA s.ex) : LbS L (expS s me l i) := by
  cases me with
  | none => exact lb
  | some n =>
    have hn := hme n rfl
    intro r hr k hk
    rcases putA_in hr with h | ⟨h, h1⟩
    · exact lb r h k hk
    · rw [h] at hk
      rw [h1]
      rcases putA_mem.mp hk with rfl | hk
      · exact hl n rfl
      · obtain ⟨e0, he0⟩ := getA_some hn
        rw [he0] at hk
        exact lb _ (getA_mem he0) k hk
theorem step_lb {L : Lib} {ini : ScF} (gl : GoodL L ini) {me : Option Str} {us : List V} (hus : PlainV us ∨ OtherV us) (ho : ∀ n, me = some n → ∀ a b, us = [.str "export", .str a, .str b] → a ∈ labP (progL L n)) {m m' : M4} {seen : List Str} {s s' : Sc} (wf : WfS s) (lb : LbS L s) (hme : ∀ n, me = some n → n ∈ keysA s.ex)
    (h : (∃ d seen', stepX ini me us m seen s = .go d m' seen' s') ∨ stepX ini me us m seen s = .halt m' s') : LbS L s' := by
  rcases hus with hp | ov
  · rw [stepX_plain hp] at h
    rcases h with ⟨d, seen', h⟩ | h
    · cases h; exact lb
    · cases h
  · cases ov with
    | exp =>
      rw [stepX_exp] at h
      rcases h with ⟨d, seen', h⟩ | h
      · cases h; exact exp_lb lb (fun n e => ho n e _ _ rfl) hme
      · cases h
    | read _ =>
      rw [stepX_read] at h
      rcases h with ⟨d, seen', h⟩ | h
      · cases h; exact lb
      · cases h
    | @need md =>
      rw [stepX_need] at h
      cases hi : ini s md with
      | error c => rw [hi] at h; rcases h with ⟨d, seen', h⟩ | h <;> cases h
      | ok r =>
        obtain ⟨b, s2⟩ := r
        have g := gl s md b s2 wf lb hi
        rw [hi] at h
        cases b with
        | false => rcases h with ⟨d, seen', h⟩ | h <;> cases h; exact g
        | true => rcases h with ⟨d, seen', h⟩ | h <;> cases h; exact g
    | @try_ md x _ =>
      rw [stepX_try] at h
      cases hi : ini s md with
      | error c => rw [hi] at h; rcases h with ⟨d, seen', h⟩ | h <;> cases h
      | ok r =>
        obtain ⟨b, s2⟩ := r
        have g := gl s md b s2 wf lb hi
        rw [hi] at h
        cases b with
        | false => rcases h with ⟨d, seen', h⟩ | h <;> cases h; exact g
        | true => rcases h with ⟨d, seen', h⟩ | h <;> cases h; exact g
    | fail =>
      rw [stepX_fail] at h
      rcases h with ⟨d, seen', h⟩ | h
      · cases h
      · cases h; exact lb
theorem exec_lb {L : Lib} {ini : ScF} (gi : GoodI ini) (gl : GoodL L ini) {me : Option Str} {vss : List (List V)} (po : ∀ us ∈ vss, PlainV us ∨ OtherV us) (ow : OwnL L me vss) : ∀ (f pos : Nat) {m m' : M4} {seen : List Str} {s s' : Sc} {b : Bool}, WfS s → LbS L s → (∀ n, me = some n → n ∈ keysA s.ex) → (∀ k ∈ seen, k ∈ keysA s.ex) →
    execS ini me vss f pos m seen s = .ok (b, m', s') → LbS L s'
  | 0, _, _, _, _, s, s', _, _, lb, _, _, h => by
    cases h
    exact lb
  | f + 1, pos, m, m', seen, s, s', b, wf, lb, hme, hs, h => by
    rw [exec_succ] at h
    cases hp : vss[pos]? with
    | none =>
      rw [hp] at h
      cases h
      exact lb
    | some us =>
      rw [hp] at h
      dsimp only at h
      have hin := List.mem_of_getElem? hp
      cases hx : stepX ini me us m seen s with
      | go d m2 seen2 s2 =>
        rw [hx] at h
        obtain ⟨_, g, w, hs2⟩ := step_gr gi (po us hin) wf hme hs hx
        exact exec_lb gi gl po ow f (pos + d) w (step_lb gl (po us hin) (fun n e => ow n e us hin) wf lb hme (.inl ⟨d, seen2, hx⟩)) (fun n e => g.ex n (hme n e)) hs2 h
      | halt m2 s2 =>
        rw [hx] at h
        cases h
        exact step_lb gl (po us hin) (fun n e => ow n e us hin) wf lb hme (.inr hx)
      | cyc c => rw [hx] at h; cases h
theorem init_lb {L : Lib} (lr : LibR L) : ∀ n, GoodL L (initS L n)
  | 0 => fun s md b s' _ _ h => by cases h
  | n + 1 => fun s md b s' wf lb h => by
    rw [init_succ] at h
    by_cases h1 : md ∈ s.op
    · rw [if_pos h1] at h
      cases h
    rw [if_neg h1] at h
    cases h2 : getA s.rs md with
    | some c =>
      rw [h2] at h
      cases h
      exact lb
    | none =>
      rw [h2] at h
      dsimp only at h
      cases hx : execS (initS L n) (some md) (vsP (progL L md)) ((progL L md).length + 1) 0 .zero [md] ⟨s.op ++ [md], s.rs, putA s.ex md []⟩ with
      | error c => rw [hx] at h; cases h
      | ok r =>
        obtain ⟨e, m2, s2⟩ := r
        rw [hx] at h
        have hmk : md ∈ keysA (putA s.ex md ([] : Ints)) := putA_mem.mpr (.inl rfl)
        have lb0 : LbS L ⟨s.op ++ [md], s.rs, putA s.ex md []⟩ := fun r hr k hk => by
          rcases putA_in hr with h | ⟨h, _⟩
          · exact lb r h k hk
          · rw [h] at hk; exact nomatch hk
        have l2 := exec_lb (init_good lr n) (init_lb lr n) (vsP_or (lr.pv md)) (ownL_of L md) _ _ (wf_begin wf) lb0 (fun k hk => by cases hk; exact hmk) (fun k hk => by rw [List.mem_singleton.mp hk]; exact hmk) hx
        cases h
        intro r hr k hk
        have hr : r ∈ (if b = true then s2.ex else putA s2.ex md []) := hr
        split at hr
        · exact l2 r hr k hk
        · rcases putA_in hr with h | ⟨h, _⟩
          · exact l2 r h k hk
          · rw [h] at hk; exact nomatch hk
/-- no module exports much -/
theorem ex30 {L : Lib} {s : Sc} (lr : LibR L) (wf : WfS s) (lb : LbS L s) : ∀ r ∈ s.ex, r.2.length ≤ 30 := fun r hr => by
  have z := len_sub (wf.ni r hr) (lb r hr)
  have y := labP_len (progL L r.1)
  have x := (lr.pv r.1).len
  unfold keysA at z
  rw [List.length_map] at z
  omega
end Cr
/-! plain runs: module_row, plain_run, plain_order -/
namespace Cr
open PySem PySem.Spec PyProof.Rows L2 Evl
abbrev sMoRow : Stmt := topS 35
abbrev nMoRow : List Str := ["module", "state", "exports", "name"]
theorem scMoRow : FnScope nMoRow ["module", "state", "exports"] (defScope sMoRow) := ⟨rfl, rfl, rfl, by decide +kernel, rfl, by decide +kernel, by decide +kernel⟩
abbrev sPRun : Stmt := topS 42
abbrev nPRun : List Str := ["library", "mains", "plain", "rows", "modules", "module"]
theorem scPRun : FnScope nPRun ["library", "mains"] (defScope sPRun) := ⟨rfl, rfl, rfl, by decide +kernel, rfl, by decide +kernel, by decide +kernel⟩
theorem mains_lb {L : Lib} (lr : LibR L) {n : Nat} : ∀ {M : Lib} {s s' : Sc} {es : List MEnd}, (∀ r ∈ M, ProgV r.2) → WfS s → LbS L s → mainsS (initS L n) M s = some (es, s') → WfS s' ∧ LbS L s'
  | [], s, s', es, _, wf, lb, h => by
    cases h
    exact ⟨wf, lb⟩
  | r :: M, s, s', es, pv, wf, lb, h => by
    obtain ⟨b, m1, s2, es3, hx, hms2, rfl⟩ := mains_cons h
    have po := vsP_or (pv r List.mem_cons_self)
    obtain ⟨gr, w2⟩ := exec_gr (init_good lr n) po _ _ wf (by intro z hz; cases hz) (by intro z hz; cases hz) hx
    have l2 := exec_lb (init_good lr n) (init_lb lr n) po (ownL_none L _) _ _ wf lb (by intro z hz; cases hz) (by intro z hz; cases hz) hx
    exact mains_lb lr (fun r hr => pv r (List.mem_cons_of_mem _ hr)) w2 l2 hms2
def prI (e : Ints) (l : Str) : PyData := .tuple [.str l, .int ((getA e l).getD 0)]
def expD (e : Ints) : PyData := .tuple ((srtS (keysA e)).map (prI e))
def rowMo (md : Str) (b : Bool) (e : Ints) : PyData := .tuple [.str md, .str (if b then "ready" else "failed"), expD e]
def modRow (s : Sc) (md : Str) : PyData := rowMo md ((getA s.rs md).getD false) ((getA s.ex md).getD [])
def modsS (s : Sc) : List PyData := (srtS (keysA s.rs)).map (modRow s)
def outD (s : Sc) (es : List MEnd) : PyData := .tuple [.tuple (modsS s), .tuple (rowsS es)]
/-- sorted(a dict) -/
theorem el_srtK {α : Type} {td : TE} {σ : L2.St} {H : Hp} {d : Addr} {l : List (Str × α)} (f : Str × α → V) (h : Ev td σ H (.ref d)) (hd : H d = some (.dK (l.map fun r => ((.inr r.1 : Key), f r)))) (lt : l.length < 64) : EvL (tCB rSrtD (tCons td tNil)) σ H ((srtS (keysA l)).map V.str) := fun H1 e1 Q q =>
  h H1 e1 _ fun H2 e2 => by
    refine ⟨d, _, keysA l, rfl, .inl ((e1.trans e2) _ _ hd), by unfold keysA; rw [List.map_map, List.map_map]; rfl, by unfold keysA; rw [List.length_map]; omega, fun ys S hp2 hs2 zS => ?_⟩
    rw [sorted_is hp2 hs2]
    exact q S _ (fresh_back e2 zS) (e2.trans (Ex.new zS)) upd_same
def spMoRow : Sp := fun vs H Q _ => ∃ (md : Str) (b : Bool) (d : Addr) (e : Ints), vs = [.str md, rdV b, .ref d] ∧ H d = some (.dK (kvI e)) ∧ e.length ≤ 30 ∧ ∀ v H', Ex H H' → Dt (nwH H H') v (rowMo md b e) → Q v H'
section
variable {P : Program} {w : World} {K : PySem.W.Frag} {mg : Str → Option Value} {base : Heap}
theorem ok_morow {f : Addr} {fd : FuncData} {k : Nat} (F : Fun K "module_row" "module_row" sMoRow f fd) (B : Blt mg) : FnOk P w K mg base CX0 (k + 1) f fd ["module", "state", "exports"] spMoRow := by
  refine F.ok scMoRow (fun vs H Q E h => by obtain ⟨_, _, _, _, rfl, _⟩ := h; rfl) (fun cdv A outer s H vs Q E hr h => ?_)
  obtain ⟨md, b, d, e, rfl, hd, l30, q⟩ := h
  have hu := hu_of hr
  refine ⟨_, pss_one (ps_ret (pe_tup (pa_cons (pv 0) (pa_cons (pv 1) (pa_cons (pe_callTy call_tuple_of (by rfl) B.tuple bTuple (pa_cons (pe_lc (own := [("name", 3)]) (g := gName 3) (tt := tYes) (te := tTup (tCons (tVar 3) (tCons (tDGet (tVar 2) (tVar 3)) tNil))) rfl scMoRow.nd (pi_list (pe_callB (call_sortedD rfl) (by rfl) B.sorted bSrt (pa_cons (pv 2) pa_nil))) (blkOk_by (own := [("name", 3)]) (N := nMoRow) (sc := defScope sMoRow) (by decide +kernel))
    (fun _ _ _ _ _ => pg_name (i := 3) scMoRow.nd rfl (Or.inl rfl)) (fun _ _ _ _ _ => pts_nil) (fun _ _ _ _ _ => by exact pe_tup (pa_cons (pv 3) (pa_cons (pe_dget hu (pv 2) (pv 3) (fun _ _ => rfl)) pa_nil)))) pa_nil)) pa_nil))))), ?_⟩
  have hrdv : ∀ H, Dt H (rdV b) (.str (if b then "ready" else "failed")) := fun H => .str _
  have ev : EvDN (tTup (tCons (tVar 0) (tCons (tVar 1) (tCons (tCB (rTupleOf K) (tCons (tLc (iList K (tCB rSrtD (tCons (tVar 2) tNil))) (gName 3) tYes (tTup (tCons (tVar 3) (tCons (tDGet (tVar 2) (tVar 3)) tNil))) [3]) tNil)) tNil)))) [some (.str md), some (rdV b), some (.ref d), none] H (rowMo md b e) := by
    refine evdn_tup (evdna_cons (evdn_of (ev_var rfl) fun _ => .str _) (evdna_cons (evdn_of (ev_var rfl) hrdv) (evdna_cons (evdn_tupleOf (evdn_lcS (prI e) (el_srtK (l := e) (fun r => V.int r.2) (ev_var rfl) hd (by omega)) ?_ (fun _ => rfl) ?_)) evdna_nil))) (by show 3 ≤ 1000; decide)
    · have := (srtS_perm (keysA e)).length_eq
      unfold keysA at this ⊢
      rw [this, List.length_map]
      omega
    · intro n hn H1 e1
      obtain ⟨i, hi⟩ := getA_some ((srtS_perm (keysA e)).mem_iff.mp hn)
      have ev2 : Ev (tDGet (tVar 2) (tVar 3)) [some (.str md), some (rdV b), some (.ref d), some (.str n)] H1 (.int i) := ev_dget (x := n) (ev_var rfl) (ev_var rfl) (e1 _ _ hd) (by
        unfold kvI
        rw [valV_mapA V.int, hi]
        rfl)
      have z : prI e n = .tuple [.str n, .int i] := by unfold prI; rw [hi]; rfl
      rw [z]
      exact evdn_tup (evdna_cons (evdn_of (ev_var rfl) fun _ => .str _) (evdna_cons (evdn_of ev2 fun _ => .int _) evdna_nil)) (by show 2 ≤ 1000; decide)
  exact ev H (Ex.refl H) _ fun v H1 e1 hv => q v H1 e1 hv
end
end Cr
/-! plain runs: plain_run, plain_order -/
namespace Cr
open PySem PySem.Spec PyProof.Rows L2 Evl
theorem evd_tupleOf {K : PySem.W.Frag} {te : TE} {σ : L2.St} {H : Hp} {ds : List PyData} (h : EvD te σ H (.list ds)) : EvD (tCB (rTupleOf K) (tCons te tNil)) σ H (.tuple ds) := fun H1 e Q q =>
  h H1 e _ fun v H2 e2 hv => by
    obtain ⟨a, xs, rfl, ha, hx⟩ := dt_lst hv
    exact ⟨a, xs, rfl, .inl ⟨sq_of ha, fun t ht => q (.ref t) _ (e2.trans (Ex.new ht)) (.tup upd_same (DtAll.ex (Ex.new ht) hx))⟩⟩
/-- what a plain run starts from -/
structure PlIn (CL : Addr) (H : Hp) (D lib : Addr) (L M : Lib) (labs : List Str) (n : Nat) (es : List MEnd) (s' : Sc) : Prop where
  mn : ∃ kvs, MnAt CL H D lib kvs L M
  mv : MainsV L M
  lu : LibU labs L
  ms : mainsS (initS L n) M s0S = some (es, s')
def spPRun (CL : Addr) (n : Nat) : Sp := fun vs H Q _ => ∃ D lib L M labs es s', vs = [.ref lib, .ref D] ∧ PlIn CL H D lib L M labs n es s' ∧ ∀ v H', Ex H H' → Dt H' v (outD s' es) → Q v H'
theorem lb0 (L : Lib) : LbS L s0S := fun r h => nomatch h
section
variable {P : Program} {w : World} {K : PySem.W.Frag} {mg : Str → Option Value} {base : Heap}
theorem ok_prun {f C CL : Addr} {fd : FuncData} {k n : Nat} (F : Fun K "plain_run" "plain_run" sPRun f fd) (B : Blt mg) (T : PrC K mg C) (h1 : HasO P w K mg base k "run_mains" ["library", "mains"] (spRunMs C CL n)) (h2 : HasO P w K mg base k "module_row" ["module", "state", "exports"] spMoRow) :
    FnOk P w K mg base CX0 (k + 1) f fd ["library", "mains"] (spPRun CL n) := by
  obtain ⟨f1, d1, G1, b1, k1, g1⟩ := h1.ex
  obtain ⟨f2, d2, G2, b2, k2, g2⟩ := h2.ex
  refine F.ok scPRun (fun vs H Q E h => by obtain ⟨_, _, _, _, _, _, _, rfl, _⟩ := h; rfl) (fun cdv A outer s H vs Q E hr h => ?_)
  obtain ⟨D, lib, L, M, labs, es, s', rfl, ⟨⟨kvs, mn⟩, mv, LU, hms⟩, q⟩ := h
  have hu := hu_of hr
  refine ⟨_, pss_cons (ps_asg (pe_call (E := E0) G1 hr (by rfl) g1 k1 b1 .nil pass0 (pa_cons (pv 0) (pa_cons (pv 1) pa_nil))) (pg_tup rfl (pgs_cons (pg_name (i := 2) scPRun.nd rfl (.inr rfl)) (pgs_cons (pg_name (i := 3) scPRun.nd rfl (.inl rfl)) pgs_nil))))
    (pss_cons (ps_setLc (i := 4) (own := [("module", 5)]) (g := gName 5) (tt := tYes) (te := tCall spMoRow [] E0 (tCons (tVar 5) (tCons (tDGet (tFld K (tVar 2) "results") (tVar 5)) (tCons (tDGet (tFld K (tVar 2) "exported") (tVar 5)) tNil)))) rfl scPRun.nd rfl rfl (sw_true rfl rfl rfl (by decide +kernel)) (pi_list (pe_callB (call_sortedD rfl) (by rfl) B.sorted bSrt (pa_cons (pe_fld (pv 2) rfl) pa_nil))) (blkOk_by (own := [("module", 5)]) (N := nPRun) (sc := defScope sPRun) (by decide +kernel))
        (fun _ _ _ _ _ => pg_name (i := 5) scPRun.nd rfl (Or.inl rfl)) (fun _ _ _ _ _ => pts_nil) (fun _ _ _ _ _ => by exact pe_call (E := E0) G2 hr (by rfl) g2 k2 b2 .nil pass0 (pa_cons (pv 5) (pa_cons (pe_dget hu (pe_fld (pv 2) rfl) (pv 5) (fun _ _ => rfl)) (pa_cons (pe_dget hu (pe_fld (pv 2) rfl) (pv 5) (fun _ _ => rfl)) pa_nil)))))
    (pss_one (ps_ret (pe_tup (pa_cons (pe_callTy call_tuple_of (by rfl) B.tuple bTuple (pa_cons (pv 4) pa_nil)) (pa_cons (pe_callTy call_tuple_of (by rfl) B.tuple bTuple (pa_cons (pv 3) pa_nil)) pa_nil)))))), ?_⟩
  refine ⟨.ref lib, rfl, .ref D, rfl, D, lib, kvs, L, M, labs, es, s', rfl, mn, mv, LU, hms, fun t p A' xs rl H1 zt e1 ht sc wf nm rows => ?_⟩
  refine pair_go ht ?_
  show tSeq _ _ _ [some (.ref lib), some (.ref D), some (.ref p), some (.ref rl), none, none] H1
  obtain ⟨_, lb⟩ := mains_lb LU.n.r mv.ok wf0 (lb0 L) hms
  have x30 := ex30 LU.n.r wf lb
  have fr : s'.rs.length ≤ 40 := by
    have z := len_sub wf.nr nm.rs
    unfold keysA at z
    rw [List.length_map, List.length_map] at z
    have := LU.v.l40
    omega
  have fldR : ∀ {H' : Hp} {σ : L2.St}, Ex H1 H' → σ[2]? = some (some (.ref p)) → Ev (tFld K (tVar 2) "results") σ H' (.ref A'.aR) := fun e h => ev_fld (ev_var h) (e _ _ sc.ob) T.cl T.nR (flP_rs A')
  have fldE : ∀ {H' : Hp} {σ : L2.St}, Ex H1 H' → σ[2]? = some (some (.ref p)) → Ev (tFld K (tVar 2) "exported") σ H' (.ref A'.aE) := fun e h => ev_fld (ev_var h) (e _ _ sc.ob) T.cl T.nE (flP_ex A')
  have lc : EvDN (tLc (iList K (tCB rSrtD (tCons (tFld K (tVar 2) "results") tNil))) (gName 5) tYes (tCall spMoRow [] E0 (tCons (tVar 5) (tCons (tDGet (tFld K (tVar 2) "results") (tVar 5)) (tCons (tDGet (tFld K (tVar 2) "exported") (tVar 5)) tNil)))) [5]) [some (.ref lib), some (.ref D), some (.ref p), some (.ref rl), none, none] H1 (.list (modsS s')) := by
    refine evdn_lcS (modRow s') (el_srtK (l := s'.rs) (fun r => rdV r.2) (fldR (Ex.refl _) rfl) sc.rs (by omega)) ?_ (fun _ => rfl) ?_
    · have := (srtS_perm (keysA s'.rs)).length_eq
      unfold keysA at this ⊢
      rw [this, List.length_map]
      omega
    · intro md hmd H2 e2
      have hk := (srtS_perm (keysA s'.rs)).mem_iff.mp hmd
      obtain ⟨b, hb⟩ := getA_some hk
      have hkx := wf.rs md hk
      rw [← sc.exs] at hkx
      unfold keysA exs0 at hkx
      rw [List.map_map] at hkx
      obtain ⟨ae, hae⟩ := getA_some (l := xs) hkx
      obtain ⟨a, e⟩ := ae
      have ge : getA s'.ex md = some e := by
        rw [← sc.exs]
        unfold exs0
        rw [getA_map (fun z : Addr × Ints => z.2), hae]
        rfl
      have le : e.length ≤ 30 := x30 (md, e) (getA_mem ge)
      have z : modRow s' md = rowMo md b e := by unfold modRow; rw [hb, ge]; rfl
      rw [z]
      refine fun H3 e3 Q3 q3 => ?_
      have e13 := e2.trans e3
      refine ⟨.str md, rfl, ?_⟩
      refine ev_dget (x := md) (v := rdV b) (fldR e13 rfl) (ev_var rfl) (e13 _ _ sc.rs) (by unfold kvR; rw [valV_mapA rdV, hb]; rfl) H3 (Ex.refl _) _ fun H4 e4 => ?_
      refine ev_dget (x := md) (v := .ref a) (fldE (e13.trans e4) rfl) (ev_var rfl) ((e13.trans e4) _ _ sc.exd) (by unfold kvE; rw [valV_mapA (fun r : Addr × Ints => V.ref r.1), hae]; rfl) H4 (Ex.refl _) _ fun H5 e5 => ?_
      exact ⟨md, b, a, e, rfl, ((e13.trans e4).trans e5) _ _ (sc.ini _ (getA_mem hae)), le, fun v H6 e6 hv => q3 v H6 ((e4.trans e5).trans e6) (Dt.ex (nw_mono (e4.trans e5) (Ex.refl _)) hv)⟩
  refine q_asgD lc.dd fun v H2 e2 hv => ?_
  refine s_retD (evd_tup (evda_cons (evd_tupleOf (evd_var rfl hv)) (evda_cons (evd_tupleOf (evd_var rfl (Dt.ex e2 rows))) evda_nil)) (by show 2 ≤ 1000; decide)) fun v H3 e3 hv => ?_
  exact q v H3 ((e1.trans e2).trans e3) hv
end
end Cr
/-! the law's own scene in the heap: states, exports, order -/
namespace Cr
open PySem PySem.Spec PyProof.Rows L2 Evl
structure CoAt (HB H : Hp) (A : ScA) (s : Sc) (xs : Exs) : Prop where
  op : H A.aO = some (.lst (s.op.map V.str))
  rs : H A.aR = some (.dK (kvR s.rs))
  exd : H A.aE = some (.dK (kvE xs))
  exs : exs0 xs = s.ex
  ini : ∀ r ∈ xs, H r.2.1 = some (.dK (kvI r.2.2))
  nd : (ownS A xs).Nodup
  nb : ∀ a ∈ ownS A xs, HB a = none
  bx : Ex HB H
section
variable {HB H H' : Hp} {A : ScA} {s : Sc} {xs : Exs}
theorem CoAt.ex (h : CoAt HB H A s xs) (e : Ex H H') : CoAt HB H' A s xs := ⟨e _ _ h.op, e _ _ h.rs, e _ _ h.exd, h.exs, fun r hr => e _ _ (h.ini r hr), h.nd, h.nb, h.bx.trans e⟩
theorem CoAt.own_some (h : CoAt HB H A s xs) : ∀ a ∈ ownS A xs, ∃ o, H a = some o ∧ (∀ ys, o ≠ .tup ys) ∧ (∀ C dx fs, o ≠ .ins C dx fs) ∧ (∀ g, o ≠ .ext g) := fun a ha => by
  rcases List.mem_cons.mp ha with rfl | ha
  · exact ⟨_, h.op, fun ys z => (nomatch z), fun C dx fs z => (nomatch z), fun g z => (nomatch z)⟩
  rcases List.mem_cons.mp ha with rfl | ha
  · exact ⟨_, h.rs, fun ys z => (nomatch z), fun C dx fs z => (nomatch z), fun g z => (nomatch z)⟩
  rcases List.mem_cons.mp ha with rfl | ha
  · exact ⟨_, h.exd, fun ys z => (nomatch z), fun C dx fs z => (nomatch z), fun g z => (nomatch z)⟩
  · obtain ⟨r, hr, rfl⟩ := List.mem_map.mp ha
    exact ⟨_, h.ini r hr, fun ys z => (nomatch z), fun C dx fs z => (nomatch z), fun g z => (nomatch z)⟩
theorem CoAt.no_ext (h : CoAt HB H A s xs) {a : Addr} {g : Heap → Prop} (ha : H a = some (.ext g)) : a ∉ ownS A xs := fun z => by
  obtain ⟨o, h1, _, _, h4⟩ := h.own_some a z
  rw [ha] at h1
  cases h1
  exact h4 _ rfl
/-- what changes is not the run's -/
theorem CoAt.but {l : List Addr} (h : CoAt HB H A s xs) (b : But l H H') (h2 : ∀ a ∈ ownS A xs, a ∉ l) (h3 : ∀ a ∈ l, HB a = none) : CoAt HB H' A s xs :=
  ⟨b _ _ (h2 _ in_O) h.op, b _ _ (h2 _ in_R) h.rs, b _ _ (h2 _ in_E) h.exd, h.exs, fun r hr => b _ _ (h2 _ (in_I hr)) (h.ini r hr), h.nd, h.nb, fun a o z => b _ _ (fun hl => by rw [h3 a hl] at z; cases z) (h.bx _ _ z)⟩
theorem CoAt.tps (h : CoAt HB H A s xs) (b : But (ownS A xs) H H') : Tps H H' := tps_own b fun a ha ys z => by
  obtain ⟨o, h1, h2, _⟩ := h.own_some a ha
  rw [h1] at z
  cases z
  exact h2 _ rfl
theorem CoAt.bx_upd (h : CoAt HB H A s xs) {a : Addr} {o : HO} (ha : a ∈ ownS A xs) : Ex HB (upd H a o) := fun b u z => by
  rw [upd_ne (fun e => by rw [e, h.nb a ha] at z; cases z)]
  exact h.bx _ _ z
theorem CoAt.dis (h : CoAt HB H A s xs) : A.aO ≠ A.aR ∧ A.aO ≠ A.aE ∧ A.aR ≠ A.aE ∧ (∀ r ∈ xs, r.2.1 ≠ A.aO ∧ r.2.1 ≠ A.aR ∧ r.2.1 ≠ A.aE) := by
  obtain ⟨n1, n2⟩ := List.nodup_cons.mp h.nd
  obtain ⟨n3, n4⟩ := List.nodup_cons.mp n2
  obtain ⟨n5, n6⟩ := List.nodup_cons.mp n4
  refine ⟨fun e => n1 (by rw [e]; exact List.mem_cons_self), fun e => n1 (by rw [e]; exact List.mem_cons_of_mem _ List.mem_cons_self), fun e => n3 (by rw [e]; exact List.mem_cons_self), fun r hr => ?_⟩
  have hm := List.mem_map_of_mem (f := adr) hr
  exact ⟨fun e => n1 (by rw [← e]; exact List.mem_cons_of_mem _ (List.mem_cons_of_mem _ hm)), fun e => n3 (by rw [← e]; exact List.mem_cons_of_mem _ hm), fun e => n5 (by rw [← e]; exact hm)⟩
/-- the list of what was started -/
theorem CoAt.setO (h : CoAt HB H A s xs) (op' : List Str) : CoAt HB (upd H A.aO (.lst (op'.map V.str))) A ⟨op', s.rs, s.ex⟩ xs := by
  obtain ⟨d1, d2, d3, d4⟩ := h.dis
  exact ⟨upd_same, by rw [upd_ne d1.symm]; exact h.rs, by rw [upd_ne d2.symm]; exact h.exd, h.exs, fun r hr => by rw [upd_ne (d4 r hr).1]; exact h.ini r hr, h.nd, h.nb, h.bx_upd in_O⟩
theorem CoAt.setR (h : CoAt HB H A s xs) (rs' : List (Str × Bool)) : CoAt HB (upd H A.aR (.dK (kvR rs'))) A ⟨s.op, rs', s.ex⟩ xs := by
  obtain ⟨d1, d2, d3, d4⟩ := h.dis
  exact ⟨by rw [upd_ne d1]; exact h.op, upd_same, by rw [upd_ne d3.symm]; exact h.exd, h.exs, fun r hr => by rw [upd_ne (d4 r hr).2.1]; exact h.ini r hr, h.nd, h.nb, h.bx_upd in_R⟩
/-- no exports yet, in a new dict -/
theorem CoAt.newE (h : CoAt HB H A s xs) (wf : WfS s) {md : Str} {a : Addr} (ha : H a = some (.dK [])) (h1 : a ∉ ownS A xs) (h2 : HB a = none) : CoAt HB (upd H A.aE (.dK (kvE (putA xs md (a, []))))) A ⟨s.op, s.rs, putA s.ex md []⟩ (putA xs md (a, [])) ∧ (∀ b ∈ ownS A (putA xs md (a, [])), b = a ∨ b ∈ ownS A xs) := by
  obtain ⟨d1, d2, d3, d4⟩ := h.dis
  have nk := exs_keys h.exs wf
  have ha1 : a ≠ A.aO := fun e => h1 (by rw [e]; exact in_O)
  have ha2 : a ≠ A.aR := fun e => h1 (by rw [e]; exact in_R)
  have ha3 : a ≠ A.aE := fun e => h1 (by rw [e]; exact in_E)
  have ha4 : a ∉ xs.map adr := fun z => h1 (List.mem_cons_of_mem _ (List.mem_cons_of_mem _ (List.mem_cons_of_mem _ z)))
  obtain ⟨n1, n2⟩ := List.nodup_cons.mp h.nd
  obtain ⟨n3, n4⟩ := List.nodup_cons.mp n2
  obtain ⟨n5, n6⟩ := List.nodup_cons.mp n4
  have inn : ∀ b ∈ ownS A (putA xs md (a, [])), b = a ∨ b ∈ ownS A xs := fun b hb => by
    rcases List.mem_cons.mp hb with rfl | hb
    · exact .inr in_O
    rcases List.mem_cons.mp hb with rfl | hb
    · exact .inr in_R
    rcases List.mem_cons.mp hb with rfl | hb
    · exact .inr in_E
    rcases adr_in hb with rfl | hb
    · exact .inl rfl
    · exact .inr (List.mem_cons_of_mem _ (List.mem_cons_of_mem _ (List.mem_cons_of_mem _ hb)))
  refine ⟨⟨by rw [upd_ne d2]; exact h.op, by rw [upd_ne d3]; exact h.rs, upd_same, ?_, fun r hr => ?_, ?_, fun b hb => ?_, h.bx_upd in_E⟩, inn⟩
  · show exs0 _ = putA s.ex md []
    rw [← h.exs]
    exact putA_map (fun z : Addr × Ints => z.2) xs md (a, [])
  · rcases putA_in hr with hr | ⟨hr, _⟩
    · rw [upd_ne (d4 r hr).2.2]
      exact h.ini r hr
    · rw [hr, upd_ne ha3]
      exact ha
  · refine List.nodup_cons.mpr ⟨fun z => ?_, List.nodup_cons.mpr ⟨fun z => ?_, List.nodup_cons.mpr ⟨fun z => ?_, adr_new nk n6 ha4⟩⟩⟩
    · rcases List.mem_cons.mp z with e | z
      · exact d1 e
      rcases List.mem_cons.mp z with e | z
      · exact d2 e
      rcases adr_in z with e | z
      · exact ha1 e.symm
      · exact n1 (List.mem_cons_of_mem _ (List.mem_cons_of_mem _ z))
    · rcases List.mem_cons.mp z with e | z
      · exact d3 e
      rcases adr_in z with e | z
      · exact ha2 e.symm
      · exact n3 (List.mem_cons_of_mem _ z)
    · rcases adr_in z with e | z
      · exact ha3 e.symm
      · exact n5 z
  · rcases inn b hb with rfl | hb
    · exact h2
    · exact h.nb b hb
/-- one export -/
theorem CoAt.export (h : CoAt HB H A s xs) (wf : WfS s) {md l : Str} {a : Addr} {e : Ints} {i : Int} (hg : getA xs md = some (a, e)) : CoAt HB (upd H a (.dK (kvI (putA e l i)))) A (expS s (some md) l i) (putA xs md (a, putA e l i)) ∧ ownS A (putA xs md (a, putA e l i)) = ownS A xs := by
  obtain ⟨d1, d2, d3, d4⟩ := h.dis
  have nk := exs_keys h.exs wf
  have hin := getA_mem hg
  have io : a ∈ ownS A xs := in_I hin
  obtain ⟨q1, q2, q3⟩ := d4 _ hin
  have eo : ownS A (putA xs md (a, putA e l i)) = ownS A xs := by unfold ownS; rw [adr_same nk hg]
  have ge : getA s.ex md = some e := by
    rw [← h.exs]
    unfold exs0
    rw [getA_map (fun z : Addr × Ints => z.2), hg]
    rfl
  refine ⟨⟨by rw [upd_ne q1.symm]; exact h.op, by rw [upd_ne q2.symm]; exact h.rs, ?_, ?_, fun r hr => ?_, by rw [eo]; exact h.nd, by rw [eo]; exact h.nb, h.bx_upd io⟩, eo⟩
  · rw [upd_ne q3.symm, h.exd]
    congr 2
    unfold kvE
    have : (putA xs md (a, putA e l i)).map (fun r => ((.inr r.1 : Key), V.ref r.2.1)) = xs.map (fun r => ((.inr r.1 : Key), V.ref r.2.1)) := by
      rw [putA_has (getA_key.mp (by rw [hg]; rfl)), List.map_map]
      refine List.map_congr_left fun r hr => ?_
      show ((.inr (if r.1 = md then (r.1, (a, putA e l i)) else r).1 : Key), V.ref (if r.1 = md then (r.1, (a, putA e l i)) else r).2.1) = _
      split
      · rename_i er
        have : r = (md, (a, e)) := key_one nk hr hin er
        rw [this]
      · rfl
    exact this.symm
  · show exs0 _ = putA s.ex md (putA ((getA s.ex md).getD []) l i)
    rw [ge, ← h.exs]
    exact putA_map (fun z : Addr × Ints => z.2) xs md (a, putA e l i)
  · rcases putA_in hr with hr' | ⟨hr', _⟩
    · by_cases hra : r.2.1 = a
      · -- the same address: the row itself
        rcases Classical.em (r.1 = md) with er | er
        · rw [hra, upd_same]
          have z : r ∈ putA xs md (a, putA e l i) := hr
          rw [putA_has (getA_key.mp (by rw [hg]; rfl))] at z
          obtain ⟨y, hy, hyr⟩ := List.mem_map.mp z
          by_cases ey : y.1 = md
          · rw [if_pos ey] at hyr
            rw [← hyr]
          · rw [if_neg ey] at hyr
            rw [hyr] at ey
            exact absurd er ey
        · exfalso
          have p2 := (List.pairwise_map.mp (List.nodup_cons.mp (List.nodup_cons.mp (List.nodup_cons.mp h.nd).2).2).2)
          have inj : ∀ {l : Exs}, l.Pairwise (fun a b => adr a ≠ adr b) → ∀ {r r'}, r ∈ l → r' ∈ l → adr r = adr r' → r = r' := by
            intro l
            induction l with
            | nil => intro _ r r' h; exact nomatch h
            | cons y l ih =>
              intro hp r r' h h' e
              obtain ⟨a1, a2⟩ := List.pairwise_cons.mp hp
              rcases List.mem_cons.mp h with u | u
              · rcases List.mem_cons.mp h' with u' | u'
                · rw [u, u']
                · rw [u] at e
                  exact absurd e (a1 _ u')
              · rcases List.mem_cons.mp h' with u' | u'
                · rw [u'] at e
                  exact absurd e.symm (a1 _ u)
                · exact ih a2 u u' e
          have := inj p2 hr' hin hra
          exact er (by rw [this])
      · rw [upd_ne hra]
        exact h.ini r hr'
    · rw [hr']
      exact upd_same
end
end Cr
/-! the laws' own evaluators: boxes, what a first need leaves -/
namespace Cr
open PySem PySem.Spec PyProof.Rows L2 Evl
/-- a new box: all variables are 0 -/
abbrev zero4 : List (Key × V) := [(.inr "a", .int 0), (.inr "b", .int 0), (.inr "c", .int 0), (.inr "d", .int 0)]
theorem zero4_at {i c : Nat} (h : ("abcd" : Str).cps[i]? = some c) : zero4.take (i + 1) = zero4.take i ++ [(.inr ⟨#[c]⟩, .int 0)] := by
  have hi : i < 4 := (Array.getElem?_eq_some_iff.mp h).1
  match i, hi with
  | 0, _ => cases h; rfl
  | 1, _ => cases h; rfl
  | 2, _ => cases h; rfl
  | 3, _ => cases h; rfl
theorem box_new {K : PySem.W.Frag} {σ : L2.St} {H : Hp} {j : Nat} {Q : VK} (hw : ∀ x, wipe ((wipe σ [j]).set j (some x)) [j] = wipe σ [j]) (hj : ∀ x, ((wipe σ [j]).set j (some x))[j]? = some (some x)) (q : ∀ d H', H d = none → Ex H H' → H' d = some (.dK M4.zero.kv) → Q (.ref d) H') :
    tCB (rDictP K) (tCons (tLc (iStr (tC (.str "abcd"))) (gName j) tYes (tTup (tCons (tVar j) (tCons (tC (.int 0)) tNil))) [j]) tNil) σ H Q := by
  refine ⟨"abcd", rfl, fun L zL => ?_⟩
  refine lc_it (walk_str (z := "abcd")) (fun i H' => ∃ ps : List Addr, H' L = some (.lst (ps.map V.ref)) ∧ Ex H H' ∧ Paired (fun p kv => H' p = some (.tup [kV kv.1, kv.2])) ps (zero4.take i))
    ⟨[], upd_same, Ex.new zL, .nil⟩ (fun _ _ _ _ => trivial) (fun i x H1 H2 hi hP hY => ?_) (fun H1 hP => ?_)
  · obtain ⟨rfl, c, hc, rfl⟩ := hY
    obtain ⟨ps, hL, ex, pr⟩ := hP
    refine ⟨hw _, ?_⟩
    show tYes _ _ _
    refine ⟨.str ⟨#[c]⟩, hj _, by show 2 ≤ sizeLine; decide, fun t zt => ?_⟩
    have ih : i < 4 := hi
    have tL : t ≠ L := fun e => by rw [e, hL] at zt; cases zt
    have eN := Ex.new (o := .tup [.str ⟨#[c]⟩, .int 0]) zt
    have ln := pr.length
    rw [List.length_take] at ln
    refine ⟨_, eN _ _ hL, sz_lt (by rw [List.length_map]; omega), ps ++ [t], by rw [upd_same, List.map_append]; rfl, Ex.mut (ex.trans eN) zL, ?_⟩
    rw [zero4_at hc]
    refine (pr.mono fun a b h => ?_).snoc ?_
    · rw [upd_ne (fun e => by rw [e, hL] at h; cases h)]
      exact eN _ _ h
    · rw [upd_ne tL, upd_same]
      rfl
  · obtain ⟨ps, hL, ex, pr⟩ := hP
    refine ⟨L, ps, zero4, rfl, sq_of hL, pr.mono fun a b h => st_of h, fun d zd => ?_⟩
    exact q d _ (fresh_back ex zd) (ex.trans (Ex.new zd)) (by rw [upd_same]; rfl)
theorem q_par3 {i j l : Nat} {ta : TA} {tz : TS} {D : Ends} {σ : L2.St} {H : Hp} (h : ta σ H fun vs H1 => ∃ u v w, vs = [u, v, w] ∧ tz D (((σ.set i (some u)).set j (some v)).set l (some w)) H1) : tSeq (tPar3 i j l ta) tz D σ H := h
theorem tcons_go {t : TE} {ts : TA} {σ : L2.St} {H : Hp} {Q : List V → Hp → Prop} (h : t σ H fun v H1 => ts σ H1 fun vs H2 => Q (v :: vs) H2) : tCons t ts σ H Q := h
theorem put_varB {H : Hp} {a : Addr} {m : M4} {x : Str} (h : H a = some (.dK m.kv)) (hx : isVar (.str x) = true) (v : Int) : DPut H a (.str x) (.int v) (upd H a (.dK (m.set x v).kv)) := by
  have z := DPut.k (k := .inr x) (v := .int v) h (by show 4 < sizeLine; decide)
  rw [m4_put _ hx] at z
  exact z
theorem init_cases {L : Lib} : ∀ {n : Nat} {s : Sc} {md : Str} {b : Bool} {s' : Sc}, initS L n s md = .ok (b, s') → (getA s.rs md = some b ∧ s' = s) ∨ (getA s.rs md = none ∧ getA s'.rs md = some b)
  | 0, s, md, b, s', h => by cases h
  | n + 1, s, md, b, s', h => by
    rw [init_succ] at h
    by_cases h1 : md ∈ s.op
    · rw [if_pos h1] at h
      cases h
    rw [if_neg h1] at h
    cases h2 : getA s.rs md with
    | some c =>
      rw [h2] at h
      cases h
      exact .inl ⟨rfl, rfl⟩
    | none =>
      rw [h2] at h
      dsimp only at h
      cases hx : execS (initS L n) (some md) (vsP (progL L md)) ((progL L md).length + 1) 0 .zero [md] ⟨s.op ++ [md], s.rs, putA s.ex md []⟩ with
      | error c => rw [hx] at h; cases h
      | ok r =>
        obtain ⟨e, m2, s2⟩ := r
        rw [hx] at h
        cases h
        exact .inr ⟨rfl, by show getA (putA s2.rs md b) md = some b; rw [getA_put, if_pos rfl]⟩
/-! ### what has begun is not ended meanwhile -/
def KeepO (ini : ScF) : Prop := ∀ s md b s', WfS s → ini s md = .ok (b, s') → ∀ k ∈ s.op, k ∈ keysA s'.rs → k ∈ keysA s.rs
theorem step_ko {ini : ScF} (ko : KeepO ini) {me : Option Str} {us : List V} (hus : PlainV us ∨ OtherV us) {m m' : M4} {seen : List Str} {s s' : Sc} (wf : WfS s)
    (h : (∃ d seen', stepX ini me us m seen s = .go d m' seen' s') ∨ stepX ini me us m seen s = .halt m' s') : ∀ k ∈ s.op, k ∈ keysA s'.rs → k ∈ keysA s.rs := by
  rcases hus with hp | ov
  · rw [stepX_plain hp] at h
    rcases h with ⟨d, seen', h⟩ | h
    · cases h; exact fun k _ z => z
    · cases h
  · cases ov with
    | exp =>
      rw [stepX_exp] at h
      rcases h with ⟨d, seen', h⟩ | h
      · cases h
        cases me with
        | none => exact fun k _ z => z
        | some n => exact fun k _ z => z
      · cases h
    | read _ =>
      rw [stepX_read] at h
      rcases h with ⟨d, seen', h⟩ | h
      · cases h; exact fun k _ z => z
      · cases h
    | @need md =>
      rw [stepX_need] at h
      cases hi : ini s md with
      | error c => rw [hi] at h; rcases h with ⟨d, seen', h⟩ | h <;> cases h
      | ok r =>
        obtain ⟨b, s2⟩ := r
        have g := ko s md b s2 wf hi
        rw [hi] at h
        cases b with
        | false => rcases h with ⟨d, seen', h⟩ | h <;> cases h; exact g
        | true => rcases h with ⟨d, seen', h⟩ | h <;> cases h; exact g
    | @try_ md x _ =>
      rw [stepX_try] at h
      cases hi : ini s md with
      | error c => rw [hi] at h; rcases h with ⟨d, seen', h⟩ | h <;> cases h
      | ok r =>
        obtain ⟨b, s2⟩ := r
        have g := ko s md b s2 wf hi
        rw [hi] at h
        cases b with
        | false => rcases h with ⟨d, seen', h⟩ | h <;> cases h; exact g
        | true => rcases h with ⟨d, seen', h⟩ | h <;> cases h; exact g
    | fail =>
      rw [stepX_fail] at h
      rcases h with ⟨d, seen', h⟩ | h
      · cases h
      · cases h; exact fun k _ z => z
theorem exec_ko {ini : ScF} (gi : GoodI ini) (ko : KeepO ini) {me : Option Str} {vss : List (List V)} (po : ∀ us ∈ vss, PlainV us ∨ OtherV us) : ∀ (f pos : Nat) {m m' : M4} {seen : List Str} {s s' : Sc} {b : Bool}, WfS s → (∀ n, me = some n → n ∈ keysA s.ex) → (∀ k ∈ seen, k ∈ keysA s.ex) →
    execS ini me vss f pos m seen s = .ok (b, m', s') → ∀ k ∈ s.op, k ∈ keysA s'.rs → k ∈ keysA s.rs
  | 0, _, _, _, _, s, s', _, _, _, _, h => by
    cases h
    exact fun k _ z => z
  | f + 1, pos, m, m', seen, s, s', b, wf, hme, hs, h => by
    rw [exec_succ] at h
    cases hp : vss[pos]? with
    | none =>
      rw [hp] at h
      cases h
      exact fun k _ z => z
    | some us =>
      rw [hp] at h
      dsimp only at h
      have hin := List.mem_of_getElem? hp
      cases hx : stepX ini me us m seen s with
      | go d m2 seen2 s2 =>
        rw [hx] at h
        obtain ⟨_, g, w, hs2⟩ := step_gr gi (po us hin) wf hme hs hx
        intro k hk hz
        exact step_ko ko (po us hin) wf (.inl ⟨d, seen2, hx⟩) k hk (exec_ko gi ko po f (pos + d) w (fun n e => g.ex n (hme n e)) hs2 h k (by rw [g.op]; exact hk) hz)
      | halt m2 s2 =>
        rw [hx] at h
        cases h
        exact step_ko ko (po us hin) wf (.inr hx)
      | cyc c => rw [hx] at h; cases h
theorem init_ko {L : Lib} (lr : LibR L) : ∀ n, KeepO (initS L n)
  | 0 => fun s md b s' _ h => by cases h
  | n + 1 => fun s md b s' wf h => by
    rw [init_succ] at h
    by_cases h1 : md ∈ s.op
    · rw [if_pos h1] at h
      cases h
    rw [if_neg h1] at h
    cases h2 : getA s.rs md with
    | some c =>
      rw [h2] at h
      cases h
      exact fun k _ z => z
    | none =>
      rw [h2] at h
      dsimp only at h
      cases hx : execS (initS L n) (some md) (vsP (progL L md)) ((progL L md).length + 1) 0 .zero [md] ⟨s.op ++ [md], s.rs, putA s.ex md []⟩ with
      | error c => rw [hx] at h; cases h
      | ok r =>
        obtain ⟨e, m2, s2⟩ := r
        rw [hx] at h
        have hmk : md ∈ keysA (putA s.ex md ([] : Ints)) := putA_mem.mpr (.inl rfl)
        have g := exec_ko (init_good lr n) (init_ko lr n) (vsP_or (lr.pv md)) _ _ (wf_begin wf) (fun k hk => by cases hk; exact hmk) (fun k hk => by rw [List.mem_singleton.mp hk]; exact hmk) hx
        cases h
        intro k hk hz
        rcases putA_mem.mp hz with rfl | hz
        · exact absurd hk h1
        · exact g k (List.mem_append_left _ hk) hz
theorem steps_prog {H : Hp} {v : V} {p : Prog} (pv : ProgV p) (h : Dt H v (progD p)) : ∃ a ys, v = .ref a ∧ H a = some (.lst ys) ∧ Steps H ys (vsP p) := by
  obtain ⟨a, ys, rfl, ha, hy⟩ := dt_lst h
  obtain ⟨vss, e, hs, sv⟩ := steps_of hy (fun d hd => by
    obtain ⟨ds, hds, rfl⟩ := List.mem_map.mp hd
    exact pv.st ds hds)
  have : vss = vsP p := stepsD_inj2 sv (vsP_v pv) (by rw [vsP_steps pv]; exact e.symm)
  rw [this] at hs
  exact ⟨a, ys, rfl, ha, hs⟩
end Cr
/-! d.items() of a dict of numbers, sorted -/
namespace Cr
open PySem PySem.Spec PyProof.Rows L2 Evl
def pI (r : Str × Int) : PyData := .tuple [.str r.1, .int r.2]
def rItemsK : V → List V → Hp → VK → Prop := fun x xs H Q => ∃ (a : Addr) (kvs : List (Key × V)), x = .ref a ∧ xs = [] ∧ H a = some (.dK kvs) ∧ ∀ p, H p = none → Q (.ref p) (upd H p (DX.itemsO p a))
theorem mt_itemsK {X : Cx} : MtR X "dict.items" rItemsK := by
  intro pins s σ H x xs v us Q I rx rxs h
  obtain ⟨a, kvs, rfl, rfl, ha, q⟩ := h
  cases rx
  cases rxs
  obtain ⟨z, hd, xs', rel, o, es, ep, ho, hx, hdat, _⟩ := (show ObjOk X.prog X.w H s.heap a (.dK kvs) from I.hok a _ ha)
  refine DT.callItems (es := es) (ep := ep) hd ⟨o, ho, hx, hdat⟩ ?_
  have hf : H s.heap.objs.size = none := I.hok.fresh (Nat.le_refl _)
  exact ⟨.ref s.heap.objs.size, upd H s.heap.objs.size (DX.itemsO s.heap.objs.size a), I.laid (t' := s.toks) (fun b u e => Heap.get?_push_of_some _ e) (Nat.le_refl _) (DX.itemsO_ok (Heap.get?_push_size _ rfl)), rfl, q _ hf⟩
def rSortItK : List V → Hp → VK → Prop := fun vs H Q => ∃ (p a : Addr) (e : List (Str × Int)), vs = [.ref p] ∧ H p = some (DX.itemsO p a) ∧ H a = some (.dK (e.map fun r => ((.inr r.1 : Key), V.int r.2))) ∧ e.length ≤ 1000 ∧
  ∀ l H', H l = none → Ex H H' → Dt H' (.ref l) (.list ((e.map pI).mergeSort (PySem.W.dataLe false id))) → Q (.ref l) H'
theorem pairs_at {P : Program} {w : World} : ∀ {es : List DictEntry} {us : List (Key × Value)} {e : List (Str × Int)} {j : Nat} {r : Str × Int}, KV (e.map fun r => ((.inr r.1 : Key), V.int r.2)) us → PySem.Pairs (mixKind P w) es us → e[j]? = some r → ∃ en t1 t2, es[j]? = some en ∧ en.key = .str r.1 t1 ∧ en.val = .int r.2 t2
  | es, us, [], j, r, kv, ps, h => by simp at h
  | es, us, y :: e, 0, r, kv, ps, h => by
    simp at h
    subst h
    cases kv with
    | cons h1 h2 =>
      cases ps with
      | cons p1 p2 p3 =>
        rename_i q _ en _
        obtain ⟨q1, q2⟩ := q
        obtain ⟨e1, rv⟩ := h1
        have e1 : (Sum.inr y.1 : Key) = q1 := e1
        subst e1
        obtain ⟨t2, rfl⟩ : ∃ t2, q2 = .int y.2 t2 := rv
        have p1 : keyIs (Sum.inr y.1) en.key = true := p1
        rcases keyIs_shape p1 with ⟨i, t, e1, e2⟩ | ⟨x, t, e1, e2⟩
        · cases e1
        · cases e1
          exact ⟨en, t, t2, rfl, e2, p2⟩
  | es, us, y :: e, j + 1, r, kv, ps, h => by
    cases kv with
    | cons h1 h2 =>
      cases ps with
      | cons p1 p2 p3 =>
        obtain ⟨en, t1, t2, a, b, c⟩ := pairs_at h2 p3 (j := j) (by simpa using h)
        exact ⟨en, t1, t2, by simpa using a, b, c⟩
theorem pairs_len {P : Program} {w : World} : ∀ {es : List DictEntry} {us : List (Key × Value)}, PySem.Pairs (mixKind P w) es us → es.length = us.length
  | _, _, .nil => rfl
  | _, _, .cons _ _ p => by rw [List.length_cons, List.length_cons, pairs_len p]
theorem each_refs {α : Type} : ∀ {out : List Value} {bs : List (Addr × α)}, PySem.W.EachIs (fun v (b : Addr × α) => v = .ref b.1) out bs → Vals (bs.map fun z => V.ref z.1) out
  | _, _, .nil => .nil
  | _, _, .cons h t => .cons h (each_refs t)
section
variable {X : Cx}
theorem cr_sortItK (hc : X.calm = true) (hu : X.A.units + 64 < cLine) : CallR X (.builtin "sorted") rSortItK := by
  intro pins s σ H xs us Q I r h
  obtain ⟨p, a, e, rfl, hp, ha, l1, q⟩ := h
  obtain rfl := Vals.ref1 r
  have view : s.heap.IsItemsView p a := (show ObjOk X.prog X.w H s.heap p (DX.itemsO p a) from I.hok p _ hp).1
  obtain ⟨z, hd, us, kv, o, es, ep, ho, hx, hdat, _, ps, _⟩ := (show ObjOk X.prog X.w H s.heap a (.dK _) from I.hok a _ ha)
  have lk := Paired.length kv
  rw [List.length_map] at lk
  have le := pairs_len ps
  have l2 : es.size = e.length := by rw [← Array.length_toList]; omega
  have hh : X.A.handled = none := I.ok.hd hc
  refine DT.sortedI (es := es) (ep := ep) hh view ⟨o, ho, hx, hdat⟩ (by rw [sizeLine_eq]; omega) fun h' tk as hk hlt hl hG => ?_
  have lak : as.length = e.length := by omega
  have nd : as.Nodup := List.Pairwise.imp (fun h => Nat.ne_of_lt h) hG.rise
  -- the pairs that were made
  have pr : ∀ (j : Nat) (b : Addr), as[j]? = some b → ∃ (r : Str × Int) (t1 t2 : _), e[j]? = some r ∧ h'.get? b = some { cls := .type "tuple", data := .seq #[Value.str r.1 t1, Value.int r.2 t2] } := by
    intro j b hj
    have hje : j < e.length := by
      have := (List.getElem?_eq_some_iff.mp hj).1
      omega
    obtain ⟨en, t1, t2, h1, h2, h3⟩ := pairs_at (r := e[j]) kv ps (List.getElem?_eq_getElem hje)
    obtain ⟨en', he, hg⟩ := hG.pairs j b hj
    rw [Array.getElem?_toList] at h1
    rw [h1] at he
    cases he
    refine ⟨e[j], t1, t2, List.getElem?_eq_getElem hje, ?_⟩
    rw [hg, h2, h3]
  have hob : (h'.push { cls := .type "list", data := .seq (as.map Value.ref).toArray }).get? h'.objs.size = some (seqObj "list" (as.map Value.ref).toArray 0) := Heap.get?_push_size _ rfl
  have kb : ∀ b o, s.heap.get? b = some o → (h'.push { cls := .type "list", data := .seq (as.map Value.ref).toArray }).get? b = some o := fun b o e => Heap.get?_push_of_some _ (hk b o e)
  have ne0 : ∀ b o, h'.get? b = some o → b ≠ h'.objs.size := fun b o e => Nat.ne_of_lt (Heap.lt_size e)
  generalize hh2 : h'.push { cls := .type "list", data := .seq (as.map Value.ref).toArray } = h2 at hob kb ⊢
  have ka : ∀ b o, h'.get? b = some o → h2.get? b = some o := fun b o e => by rw [← hh2]; exact Heap.get?_push_of_some _ e
  have mk : ∀ (as : List Addr) (e : List (Str × Int)), as.length = e.length → (∀ (j : Nat) (b : Addr), as[j]? = some b → ∃ (r : Str × Int) (t1 t2 : _), e[j]? = some r ∧ h2.get? b = some { cls := .type "tuple", data := .seq #[Value.str r.1 t1, Value.int r.2 t2] }) →
      PySem.W.EachIs (fun v (b : Addr × (Str × Int)) => v = .ref b.1) (as.map Value.ref) (as.zip e) ∧ PySem.W.EachIs (fun v (b : Addr × (Str × Int)) => ∃ bs, Reads h2 v (pI b.2) bs ∧ h'.objs.size ∉ bs) (as.map Value.ref) (as.zip e) := by
    intro as
    induction as with
    | nil => intro e _ _; exact ⟨.nil, .nil⟩
    | cons b as ih =>
      intro e hl hp
      cases e with
      | nil => simp at hl
      | cons r e =>
        obtain ⟨i1, i2⟩ := ih e (by simpa using hl) fun j b' hj => by
          obtain ⟨r', t1, t2, h1, h2⟩ := hp (j + 1) b' (by simpa using hj)
          exact ⟨r', t1, t2, by simpa using h1, h2⟩
        obtain ⟨r', t1, t2, h1, h2⟩ := hp 0 b rfl
        cases h1
        exact ⟨.cons rfl i1, .cons ⟨[], Reads.tuple h2 rfl rfl (.cons (Reads.str _ _) (.cons (Reads.int _ _) .nil)), List.not_mem_nil⟩ i2⟩
  obtain ⟨e1, e2⟩ := mk as e lak fun j b hj => by
    obtain ⟨r, t1, t2, h1, h2⟩ := pr j b hj
    exact ⟨r, t1, t2, h1, ka _ _ h2⟩
  have z2 : (as.zip e).map (·.2) = e := List.map_snd_zip (by rw [lak]; exact Nat.le_refl _)
  have zm : (as.zip e).map (fun b => pI b.2) = e.map pI := by
    rw [show (fun b : Addr × (Str × Int) => pI b.2) = pI ∘ (fun b => b.2) from rfl, ← List.map_map, z2]
  refine PySem.W.list_sort_data (s := { s with heap := h2, toks := tk }) (R := fun v (b : Addr × (Str × Int)) => v = .ref b.1) (enc := fun b => pI b.2) (vs := as.map Value.ref) (bs := as.zip e) hob e1 e2 (PySem.W.AllAlike.of fun _ _ => by unfold pI; simp [PySem.W.alike, PySem.W.alikeAll]) (PySem.W.Sortable.tuples fun _ => ⟨_, _, rfl⟩) (by rw [List.length_zip, sizeLine_eq]; omega) (fun b _ => ?_) fun out lo eo => ?_
  · have d : (pI b.2).depth ≤ 5 := by
      unfold pI
      simp [PyData.depth, PyData.depthAll]
    show X.A.units + 1 + 1 + _ < cLine
    omega
  · have perm := List.mergeSort_perm (as.zip e) (PySem.W.dataLe false fun b => pI b.2)
    obtain ⟨zs, hzs⟩ : ∃ zs, zs = (as.zip e).mergeSort (PySem.W.dataLe false fun b => pI b.2) := ⟨_, rfl⟩
    rw [← hzs] at eo perm
    have em : zs.map (fun b => pI b.2) = (e.map pI).mergeSort (PySem.W.dataLe false id) := by
      have := List.map_mergeSort (l := as.zip e) (f := fun b : Addr × (Str × Int) => pI b.2) (r := PySem.W.dataLe false fun b => pI b.2) (s := PySem.W.dataLe false id) fun _ _ _ _ => rfl
      rw [hzs, this, zm]
    have rv := each_refs eo
    have kF : ∀ b o, b ≠ h'.objs.size → h2.get? b = some o → (sortedHeap h2 h'.objs.size (as.map Value.ref) out.toArray).get? b = some o := fun b o hb e => (PyProof.Rows.sortedHeap_old hb (Heap.lt_size e)).trans e
    have kS : ∀ b o, s.heap.get? b = some o → (sortedHeap h2 h'.objs.size (as.map Value.ref) out.toArray).get? b = some o := fun b o e => kF b o (ne0 _ _ (hk b o e)) (kb b o e)
    obtain ⟨eF, heF⟩ := PyProof.Rows.sortedHeap_at (vs := as.map Value.ref) (out := out.toArray) hob
    have I1 : Inv X pins σ H { s with heap := sortedHeap h2 h'.objs.size (as.map Value.ref) out.toArray, toks := tk } := I.kept (t' := tk) kS
    have hn0 : H h'.objs.size = none := I.hok.fresh (Nat.le_of_lt hlt)
    have hlen : (zs.map fun z => V.ref z.1).length ≤ sizeLine := by
      have e := perm.length_eq
      rw [List.length_zip] at e
      rw [List.length_map, sizeLine_eq]
      omega
    have I2 : Inv X pins σ (upd H h'.objs.size (.lst (zs.map fun z => V.ref z.1))) { s with heap := sortedHeap h2 h'.objs.size (as.map Value.ref) out.toArray, toks := tk } :=
      I1.take (h' := sortedHeap h2 h'.objs.size (as.map Value.ref) out.toArray) (t' := tk) (fun b ob _ e => e) (I.fpOk (Nat.le_of_lt hlt) hn0) ⟨hlen, out, eF, rv, heF⟩
    obtain ⟨H2, I3, g, qt⟩ := DX.takeT (P := fun b vs => ∃ (j : Nat) (r : Str × Int), as[j]? = some b ∧ e[j]? = some r ∧ vs = [.str r.1, .int r.2]) I as _ I2 nd fun b hb => by
      obtain ⟨j, hj⟩ := List.mem_iff_getElem?.mp hb
      obtain ⟨r, t1, t2, he, hg⟩ := pr j b hj
      have hbl : s.heap.objs.size ≤ b := Nat.le_of_lt (hG.above b hb)
      refine ⟨hbl, ?_, [.str r.1, .int r.2], ⟨j, r, hj, he, rfl⟩, fun H3 => ⟨(by rw [sizeLine_eq]; show 2 ≤ 16777216; omega), [Value.str r.1 t1, Value.int r.2 t2], .cons ⟨t1, rfl⟩ (.cons ⟨t2, rfl⟩ .nil), ⟨_, kF _ _ (ne0 _ _ hg) (ka _ _ hg), rfl, 0, rfl⟩⟩⟩
      rw [upd_ne (ne0 _ _ hg)]
      exact I.hok.fresh hbl
    have gr : Ex H H2 := fun b o e => g b o (by rw [upd_ne (ne_of_none e hn0)]; exact e)
    refine ⟨.ref h'.objs.size, H2, I3, rfl, q _ H2 hn0 gr ?_⟩
    rw [← em]
    refine .lst (g _ _ upd_same) ?_
    have one : ∀ z ∈ zs, Dt H2 (.ref z.1) (pI z.2) := fun z' hz' => by
      obtain ⟨j, hj⟩ := List.mem_iff_getElem?.mp (perm.mem_iff.mp hz')
      obtain ⟨i1, i2⟩ := List.getElem?_zip_eq_some.mp hj
      obtain ⟨vs, ⟨i, r, j1, j2, ev⟩, hH⟩ := qt z'.1 (List.mem_of_getElem? i1)
      have eij : i = j := (List.getElem?_inj (List.getElem?_eq_some_iff.mp j1).1 nd).mp (j1.trans i1.symm)
      subst eij
      rw [i2] at j2
      cases j2
      rw [ev] at hH
      exact .tup hH (.cons (.str _) (.cons (.int _) .nil))
    have go : ∀ zs : List (Addr × (Str × Int)), (∀ z ∈ zs, Dt H2 (.ref z.1) (pI z.2)) → DtAll H2 (zs.map fun z => V.ref z.1) (zs.map fun b => pI b.2) := by
      intro zs
      induction zs with
      | nil => exact fun _ => .nil
      | cons z zs ih => exact fun one => .cons (one z List.mem_cons_self) (ih fun y hy => one y (List.mem_cons_of_mem _ hy))
    exact go zs one
end
end Cr
/-! the law's own evaluator: what _law_all_done needs -/
namespace Cr
open PySem PySem.Spec PyProof.Rows L2 Evl
/-! ### data of tuples stays where tuples stay -/
mutual
def tupO : PyData → Bool
  | .tuple xs => tupOA xs
  | .list _ => false
  | .dict _ => false
  | _ => true
def tupOA : List PyData → Bool
  | [] => true
  | x :: xs => tupO x && tupOA xs
end
mutual
theorem Dt.tps {H H' : Hp} (e : Tps H H') : ∀ {v : V} {d : PyData}, tupO d = true → Dt H v d → Dt H' v d
  | _, _, _, .non => .non
  | _, _, _, .bl b => .bl b
  | _, _, _, .int i => .int i
  | _, _, _, .str x => .str x
  | _, _, z, .lst h a => by rw [tupO] at z; cases z
  | _, _, z, .tup h a => .tup (e _ _ h) (DtAll.tps e (by rw [tupO] at z; exact z) a)
  | _, _, z, .dct h a => by rw [tupO] at z; cases z
theorem DtAll.tps {H H' : Hp} (e : Tps H H') : ∀ {vs : List V} {ds : List PyData}, tupOA ds = true → DtAll H vs ds → DtAll H' vs ds
  | _, _, _, .nil => .nil
  | _, _, z, .cons a b => by
    rw [tupOA, Bool.and_eq_true] at z
    exact .cons (Dt.tps e z.1 a) (DtAll.tps e z.2 b)
end
theorem tupOA_all {ds : List PyData} (h : ∀ d ∈ ds, tupO d = true) : tupOA ds = true := by
  induction ds with
  | nil => rfl
  | cons d ds ih =>
    rw [tupOA, h d List.mem_cons_self, ih fun x hx => h x (List.mem_cons_of_mem _ hx)]
    rfl
/-! ### rows sorted by their names -/
theorem lt_key {a b : Str} {xs ys : List PyData} (h : a ≠ b) : PySem.W.dataLt (.tuple (.str a :: xs)) (.tuple (.str b :: ys)) = decide (a.cps.toList < b.cps.toList) := by
  rw [PySem.W.dataLt_tuple, PySem.W.dataLt_cons (by simp [PySem.W.alike]), if_neg (by
    rw [PyData.eqv]
    exact fun z => h (beq_iff_eq.mp z)), PySem.W.dataLt_str]
theorem sort_by_key {α : Type} {f : α → PyData} {key : α → Str} {rest : α → List PyData} (hf : ∀ a, f a = .tuple (.str (key a) :: rest a)) {l m : List α} (nd : (l.map key).Nodup) (p : m.Perm l) (s : (m.map key).Pairwise ltS) : (l.map f).mergeSort (PySem.W.dataLe false id) = m.map f := by
  have e1 : (l.map f).mergeSort (PySem.W.dataLe false id) = (l.mergeSort (PySem.W.dataLe false f)).map f := (List.map_mergeSort (f := f) (r := PySem.W.dataLe false f) (s := PySem.W.dataLe false id) fun _ _ _ _ => rfl).symm
  rw [e1]
  congr 1
  have pm := List.mergeSort_perm l (PySem.W.dataLe false f)
  have le : ∀ a b, PySem.W.dataLe false f a b = true → leS (key a) (key b) = true := fun a b h => by
    have h : (!PySem.W.dataLt (f b) (f a)) = true := h
    by_cases e : key a = key b
    · rw [e]
      exact decide_eq_true (List.le_refl _)
    · rw [hf a, hf b, lt_key (fun z => e z.symm), Bool.not_eq_true', decide_eq_false_iff_not] at h
      exact decide_eq_true (List.not_lt.mp h)
  have s1 : (l.mergeSort (PySem.W.dataLe false f)).Pairwise (fun a b => leS (key a) (key b) = true) := (PySem.W.sort_pairwise (PySem.W.sortLe_total _ _ _) l).imp (le _ _)
  have s2 : m.Pairwise (fun a b => leS (key a) (key b) = true) := (List.pairwise_map.mp s).imp ltS_leS
  refine (pm.trans p.symm).eq_of_pairwise (fun a b ha hb h1 h2 => ?_) s1 s2
  have ek := leS_anti h1 h2
  have ha := pm.mem_iff.mp ha
  have hb := p.mem_iff.mp hb
  have uniq : ∀ {l : List α}, (l.map key).Nodup → ∀ {a b}, a ∈ l → b ∈ l → key a = key b → a = b := by
    intro l
    induction l with
    | nil => intro _ a b h; exact nomatch h
    | cons y l ih =>
      intro hn a b h h' e
      rw [List.map_cons, List.nodup_cons] at hn
      rcases List.mem_cons.mp h with u | u
      · rcases List.mem_cons.mp h' with u' | u'
        · rw [u, u']
        · exact absurd (List.mem_map_of_mem (f := key) u') (by rw [← e, u]; exact hn.1)
      · rcases List.mem_cons.mp h' with u' | u'
        · exact absurd (List.mem_map_of_mem (f := key) u) (by rw [e, u']; exact hn.1)
        · exact ih hn.2 u u' e
  exact uniq nd ha hb ek
theorem exp_sort {e : Ints} (nd : (keysA e).Nodup) : (e.map pI).mergeSort (PySem.W.dataLe false id) = (srtS (keysA e)).map (prI e) := by
  have key : ∀ r ∈ e, getA e r.1 = some r.2 := fun r hr => by
    obtain ⟨v, hv⟩ := getA_some (List.mem_map_of_mem (f := (·.1)) hr)
    have := key_one nd (getA_mem hv) hr rfl
    rw [hv, ← this]
  have em : (srtS (keysA e)).map (prI e) = ((srtS (keysA e)).map fun l => (l, (getA e l).getD 0)).map pI := by
    rw [List.map_map]
    rfl
  rw [em]
  refine sort_by_key (f := pI) (key := fun r => r.1) (rest := fun r => [.int r.2]) (fun _ => rfl) nd ?_ ?_
  · have p := (srtS_perm (keysA e)).map fun l => (l, (getA e l).getD 0)
    refine p.trans (List.Perm.of_eq ?_)
    unfold keysA
    rw [List.map_map]
    refine (List.map_congr_left (g := id) fun r hr => ?_).trans (List.map_id _)
    show (r.1, (getA e r.1).getD 0) = r
    rw [key r hr]
    rfl
  · rw [List.map_map]
    have : ((fun r : Str × Int => r.1) ∘ fun l => (l, (getA e l).getD 0)) = id := rfl
    rw [this, List.map_id]
    exact srtS_lt nd
/-! ### the scene where the main programs are locked -/
theorem CoAt.lock {D : Addr} {H H1 : Hp} {A : ScA} {s : Sc} {xs : Exs} {od : Obj} {kvs : List (Key × V)} (h : CoAt H H1 A s xs) (hd : H D = some (.dK kvs)) : CoAt (upd H D (.frz od (.dK kvs))) (upd H1 D (.frz od (.dK kvs))) A s xs := by
  have nD : ∀ a ∈ ownS A xs, a ≠ D := fun a ha e => by
    have z := h.nb a ha
    rw [e, hd] at z
    cases z
  refine ⟨by rw [upd_ne (nD _ in_O)]; exact h.op, by rw [upd_ne (nD _ in_R)]; exact h.rs, by rw [upd_ne (nD _ in_E)]; exact h.exd, h.exs, fun r hr => by rw [upd_ne (nD _ (in_I hr))]; exact h.ini r hr, h.nd, fun a ha => by rw [upd_ne (nD a ha)]; exact h.nb a ha, fun a o z => ?_⟩
  by_cases e : a = D
  · rw [e, upd_same] at z ⊢
    exact z
  · rw [upd_ne e] at z ⊢
    exact h.bx _ _ z
theorem CoAt.unlock {D : Addr} {H H1 : Hp} {A : ScA} {s : Sc} {xs : Exs} {od : Obj} {kvs : List (Key × V)} (h : CoAt (upd H D (.frz od (.dK kvs))) H1 A s xs) (hd : H D = some (.dK kvs)) : CoAt H (upd H1 D (.dK kvs)) A s xs := by
  have nD : ∀ a ∈ ownS A xs, a ≠ D := fun a ha e => by
    have z := h.nb a ha
    rw [e, upd_same] at z
    cases z
  refine ⟨by rw [upd_ne (nD _ in_O)]; exact h.op, by rw [upd_ne (nD _ in_R)]; exact h.rs, by rw [upd_ne (nD _ in_E)]; exact h.exd, h.exs, fun r hr => by rw [upd_ne (nD _ (in_I hr))]; exact h.ini r hr, h.nd, fun a ha => by have z := h.nb a ha; rw [upd_ne (nD a ha)] at z; exact z, ex_unlock hd h.bx⟩
theorem q_asgGL {te : TE} {g : TG} {tz : TS} {D : Ends} {σ : L2.St} {H : Hp} (h : te σ H fun v H1 => g v σ H1 (tz D)) : tSeq (tAsg te g) tz D σ H := h
theorem ret_tup2 {ta tb : TE} {D : Ends} {σ : L2.St} {H : Hp} (h : ta σ H fun v H1 => tb σ H1 fun u H2 => 2 ≤ sizeLine ∧ ∀ t, H2 t = none → D.rt (.ref t) (upd H2 t (.tup [v, u]))) : tRet (tTup (tCons ta (tCons tb tNil))) D σ H := h
/-- the values of a box, in order -/
theorem el_box {σ : L2.St} {H : Hp} {i j : Nat} {bx : Addr} {m : M4} (hb : H bx = some (.dK m.kv)) (hw : ∀ x, wipe ((wipe σ [j]).set j (some x)) [j] = wipe σ [j]) (hj : ∀ x, ((wipe σ [j]).set j (some x))[j]? = some (some x)) (hi : ∀ x, ((wipe σ [j]).set j (some x))[i]? = some (some (.ref bx))) :
    EvL (tLc (iStr (tC (.str "abcd"))) (gName j) tYes (tDGet (tVar i) (tVar j)) [j]) σ H [.int m.a, .int m.b, .int m.c, .int m.d] := by
  have lc := el_lcW (wi := iStr (tC (.str "abcd"))) (g := gName j) (tt := tYes) (te := tDGet (tVar i) (tVar j)) (vs := [j]) (σ := σ) (H := H) (n := 4) (Y := fun k H y H' => H' = H ∧ ∃ c, ("abcd" : Str).cps[k]? = some c ∧ y = .str ⟨#[c]⟩) (fun _ => true) (fun k => .int (m.get (vars4.getD k ("" : Str)))) (by decide)
    (fun H2 e2 R r => ⟨"abcd", rfl, r H2 _ (fun _ => True) (walk_str (z := "abcd")) (fun _ _ _ _ => trivial) (Ex.refl H2) trivial⟩)
    (fun k y H2 H3 e2 hk hy => by
      obtain ⟨rfl, c, hc, rfl⟩ := hy
      have go : ∀ x : Str, (⟨#[c]⟩ : Str) = x → isVar (.str x) = true → vars4.getD k ("" : Str) = x → Ex H3 H3 ∧ ∃ σ2, wipe σ2 [j] = wipe σ [j] ∧ (∀ R : L2.St → Hp → Prop, R σ2 H3 → gName j (.str ⟨#[c]⟩) (wipe σ [j]) H3 R) ∧ EvT tYes σ2 H3 true ∧ (true = true → Ev (tDGet (tVar i) (tVar j)) σ2 H3 (.int (m.get (vars4.getD k ("" : Str))))) := fun x ey hx ei => by
        rw [ei, ey]
        exact ⟨Ex.refl _, _, hw _, fun R r => r, fun H4 _ Q q => q H4 (Ex.refl H4), fun _ => ev_dget (x := x) (ev_var (hi _)) (ev_var (hj _)) (e2 _ _ hb) (m4_val m hx)⟩
      have i4 : k = 0 ∨ k = 1 ∨ k = 2 ∨ k = 3 := by omega
      rcases i4 with rfl | rfl | rfl | rfl
      all_goals
        cases hc
        exact go _ rfl (by decide +kernel) rfl)
  have eg : given 4 (fun _ => true) (fun k => V.int (m.get (vars4.getD k ("" : Str)))) = [.int m.a, .int m.b, .int m.c, .int m.d] := by
    rw [given_all]
    rfl
  rw [eg] at lc
  exact lc
end Cr
/-! the library beside the main programs; rows hold tuples only -/
namespace Cr
open PySem PySem.Spec PyProof.Rows L2 Evl
/-- the library's dict beside the main programs, where these may be locked -/
structure MdLk (H : Hp) (Mn D : Addr) (kvs : List (Key × V)) (L M : Lib) : Prop where
  d : H Mn = some (.dK kvs)
  k : LKv H kvs M
  dm : Dt H (.ref D) (libD L)
  lk : ∀ od, LKv (upd H Mn (.frz od (.dK kvs))) kvs M
  dl : ∀ od, Dt (upd H Mn (.frz od (.dK kvs))) (.ref D) (libD L)
theorem mdlk_mk {H : Hp} {Mn D : Addr} {kvs : List (Key × V)} {L M : Lib} (hd : H Mn = some (.dK kvs)) (hk : LKv H kvs M) (hm : ∀ r ∈ M, ProgV r.2) (hD : Dt H (.ref D) (libD L)) (lv : LibV L) (ne : D ≠ Mn) : MdLk H Mn D kvs L M := by
  refine ⟨hd, hk, hD, fun od => lkv_keep (dtAll_locked hd od) (prog_steps hm) hk, fun od => ?_⟩
  obtain ⟨kv, h1, h2⟩ := dt_dct hD
  have h2 : LKv H kv L := h2
  exact .dct (by rw [upd_ne ne]; exact h1) (lkv_keep (dtAll_locked hd od) (prog_steps lv.ok) h2)
theorem row_tup (e : MEnd) : tupO (rowE e) = true := by
  unfold rowE rowM M4.ints
  simp [tupO, tupOA]
theorem rowMo_tup (md : Str) (b : Bool) (e : Ints) : tupO (rowMo md b e) = true := by
  unfold rowMo expD
  have : tupOA ((srtS (keysA e)).map (prI e)) = true := tupOA_all fun d hd => by
    obtain ⟨l, _, rfl⟩ := List.mem_map.mp hd
    unfold prI
    simp [tupO, tupOA]
  simp [tupO, tupOA, this]
end Cr
/-! _law_program, as six laws draw it -/
namespace Cr
open PySem PySem.Spec PyProof.Rows L2 Evl
abbrev sGen : Stmt := topS 58
abbrev pGen : List Str := ["_law_pot_here", "_law_targets", "_law_labels", "_law_most", "_law_is_main"]
abbrev nGen : List Str := ["_law_pot_here", "_law_targets", "_law_labels", "_law_most", "_law_is_main", "_law_found", "_law_size", "_law_place", "_law_way"]
theorem scGen : FnScope nGen pGen (defScope sGen) := ⟨rfl, rfl, rfl, by decide +kernel, rfl, by decide +kernel, by decide +kernel⟩
/-- a program is drawn: all of it steps, in their room -/
structure Made (p : Addr) (ts : List Str) (H H' : Hp) (D : Addr) (sz i : Nat) (ys : List V) (vss : List (List V)) : Prop where
  dr : Drew p H H'
  hD : H' D = some (.lst ys)
  st : Steps H' ys vss
  len : vss.length = i
  ok : ∀ us ∈ vss, StepV us ∧ intsIn us
  mi : ∀ us ∈ vss, ModIn ts us
  bf : ∀ (j : Nat) us, vss[j]? = some us → isBefore (.tuple (us.map flD)) ((sz : Int) - j - 1) = true
theorem Made.add {p D t : Addr} {ts : List Str} {H H1 H5 : Hp} {sz i : Nat} {ys : List V} {vss : List (List V)} {us : List V} (md : Made p ts H H1 D sz i ys vss) (hD : H D = none) (Dn : D ≠ p) (hi : i < sz) (zt : H1 t = none) (hT : H5 t = some (.tup us)) (sv : StepV us) (hn : intsIn us) (mi : ModIn ts us)
    (bf : isBefore (.tuple (us.map flD)) ((sz - i - 1 : Nat) : Int) = true) (r5 : Drew p H1 H5) : Made p ts H (upd H5 D (.lst (ys ++ [.ref t]))) D sz (i + 1) (ys ++ [.ref t]) (vss ++ [us]) := by
  have hD5 := r5.at Dn md.hD
  have lt : D ≠ t := fun e => by rw [← e, md.hD] at zt; cases zt
  have tp : Tps H1 (upd H5 D (.lst (ys ++ [.ref t]))) := (r5.tps md.dr.pot).upd fun zs z => by rw [hD5] at z; cases z
  have lv := md.len
  have ea : ((sz : Int) - (i : Int) - 1) = ((sz - i - 1 : Nat) : Int) := by omega
  refine ⟨(md.dr.trans r5).mut hD Dn, upd_same, (md.st.tps tp).snoc (by rw [upd_ne lt.symm]; exact hT), by rw [List.length_append, lv]; rfl, fun u hu => ?_, fun u hu => ?_, fun j' u hu => ?_⟩
  · rcases List.mem_append.mp hu with z | z
    · exact md.ok u z
    · rw [List.mem_singleton.mp z]; exact ⟨sv, hn⟩
  · rcases List.mem_append.mp hu with z | z
    · exact md.mi u z
    · rw [List.mem_singleton.mp z]; exact mi
  · by_cases hlt : j' < vss.length
    · rw [List.getElem?_append_left hlt] at hu
      exact md.bf j' u hu
    · have hl : j' < (vss ++ [us]).length := (List.getElem?_eq_some_iff.mp hu).1
      rw [List.length_append, List.length_singleton] at hl
      have ej : j' = vss.length := by omega
      subst ej
      rw [List.getElem?_append_right (Nat.le_refl _), Nat.sub_self] at hu
      cases hu
      rw [lv, ea]
      exact bf
theorem Made.drew {p D : Addr} {ts : List Str} {H H1 H2 : Hp} {sz i : Nat} {ys : List V} {vss : List (List V)} (md : Made p ts H H1 D sz i ys vss) (Dn : D ≠ p) (r : Drew p H1 H2) : Made p ts H H2 D sz i ys vss :=
  ⟨md.dr.trans r, r.at Dn md.hD, md.st.tps (r.tps md.dr.pot), md.len, md.ok, md.mi, md.bf⟩
def spGen : Sp := fun vs H Q _ => ∃ (p tg lb : Addr) (ts ls : List Str) (most : Nat) (main : Bool), vs = [.ref p, .ref tg, .ref lb, .int (most : Int), .bl main] ∧ Pot H p ∧ tg ≠ p ∧ H tg = some (.lst (ts.map V.str)) ∧ ts.length ≤ 100 ∧ (∀ x ∈ ts, isNameS x = true) ∧
  lb ≠ p ∧ H lb = some (.lst (ls.map V.str)) ∧ 1 ≤ ls.length ∧ ls.length ≤ 100 ∧ (∀ x ∈ ls, isNameS x = true) ∧ most ≤ 90 ∧
  ∀ D ys vss sz H', H D = none → sz ≤ most → Made p ts H H' D sz sz ys vss → (main = true → ∀ us ∈ vss, noX us) → Q (.ref D) H'
theorem t1_of {ts : List Str} {b : Bool} (h : (!ts.isEmpty && b) = true) : 1 ≤ ts.length := by
  cases ts with
  | nil => cases h
  | cons t r => exact Nat.succ_pos _
section
variable {P : Program} {w : World} {K : PySem.W.Frag} {mg : Str → Option Value} {base : Heap}
theorem ev_neNilB {σ : L2.St} {H : Hp} {tg : Addr} {ts : List Str} {i : Nat} (hσ : σ[i]? = some (some (.ref tg))) (h : H tg = some (.lst (ts.map V.str))) (hn : ∀ x ∈ ts, isNameS x = true) : Ev (tOp (rNeD K) (tVar i) (tLst tNil)) σ H (.bl (!ts.isEmpty)) := by
  refine ev_opL (xs := []) (ev_var hσ) (el_lst ea_nil (Nat.zero_le _)) fun q H1 hq e1 => ?_
  intro H2 e2 Q q'
  refine ⟨.list (ts.map .str), .list [], .lst (sq_of (e2 _ _ (e1 _ _ h))) (dp_names ts), .lst (sq_of (e2 _ _ hq)) .nil, ?_, by decide +kernel, ?_⟩
  · show (PyData.canLay0 _ && decide (PyData.depth _ ≤ 64)) = true
    rw [names_lay ts hn, Bool.true_and, PyData.depth, names_deep]
    rfl
  · have e : (!PyData.eqv (.list (ts.map .str)) (.list [])) = !ts.isEmpty := by
      cases ts with
      | nil => rfl
      | cons t r => rfl
    rw [e]
    exact q' H2 (Ex.refl H2)
theorem ok_gen {f : Addr} {fd : FuncData} {k : Nat} (F : Fun K "_law_program" "_law_program" sGen f fd) (B : Blt mg) (hD : Has P w K mg base k "_law_draw" ["_law_pot_here", "_law_bound"] spDraw) (hC : Has P w K mg base k "_law_choice" ["_law_pot_here", "_law_options"] spChoice)
    (hR : Has P w K mg base k "_law_read_step" ["_law_pot_here", "_law_targets", "_law_labels", "_law_earlier"] spRead) (hL : Has P w K mg base k "_law_local_step" ["_law_pot_here", "_law_room", "_law_labels", "_law_is_main"] spLoc) : FnG P w K mg base CX0 (k + 1) f fd pGen spGen := by
  obtain ⟨fD, fdD, GD, bD, kD, gD⟩ := hD.ex
  obtain ⟨fC, fdC, GC, bC, kC, gC⟩ := hC.ex
  obtain ⟨fR, fdR, GR, bR, kR, gR⟩ := hR.ex
  obtain ⟨fL, fdL, GL, bL, kL, gL⟩ := hL.ex
  refine okG F scGen (fun vs H Q E h => by obtain ⟨_, _, _, _, _, _, _, rfl, _⟩ := h; rfl) (fun cdv A outer s H vs Q E hq hr h => ?_)
  obtain ⟨p, tg, lb, ts, ls, most, main, rfl, pot, tn, htg, t100, hts, ln, hlb, l1, l100, hls, hm, q⟩ := h
  refine ⟨_, pss_cons (ps_par (i := 5) (j := 6) (by rfl) scGen.nd rfl rfl (by decide) rfl rfl (pa_cons (pe_lst pa_nil) (pa_cons (callG GD hq hr (by rfl) gD kD bD .nil pass0 (pa_cons (pv 0) (pa_cons (pe_op op_add (pv 3) pe_int) pa_nil))) pa_nil)) (by rfl))
    (pss_cons (ps_for PassesOwn.never rfl (pi_range1 (by rfl) B.range (pa_cons (pv 6) pa_nil)) (pg_name (i := 7) scGen.nd rfl (.inl rfl))
      (pss_cons (ps_set (i := 8) scGen.nd rfl (.inl rfl) (callG GD hq hr (by rfl) gD kD bD .nil pass0 (pa_cons (pv 0) (pa_cons pe_int pa_nil))))
      (pss_one (ps_if (PW.pt (pw_and (pt_cmpR (op_neD hr.units) (pv 1) (pe_lst pa_nil) (nomark _)) (pw_and1 (pt_cmpR op_lt (pv 8) pe_int (nomark _)))))
        (pss_one (ps_expr (pe_bm PySem.F.plainAttrs_list PySem.F.slot_list_append PySem.F.type_list_append mt_append (pv 5) (pa_cons (pe_tup (pa_cons pe_str (pa_cons (callG GC hq hr (by rfl) gC kC bC .nil pass0 (pa_cons (pv 0) (pa_cons (pv 1) pa_nil))) pa_nil))) pa_nil))))
        (pss_one (ps_if (PW.pt (pw_and (pt_cmpR (op_neD hr.units) (pv 1) (pe_lst pa_nil) (nomark _)) (pw_and1 (pt_cmpR op_lt (pv 8) pe_int (nomark _)))))
          (pss_one (ps_expr (pe_bm PySem.F.plainAttrs_list PySem.F.slot_list_append PySem.F.type_list_append mt_append (pv 5) (pa_cons (pe_tup (pa_cons pe_str (pa_cons (callG GC hq hr (by rfl) gC kC bC .nil pass0 (pa_cons (pv 0) (pa_cons (pv 1) pa_nil))) (pa_cons (callG GC hq hr (by rfl) gC kC bC .nil pass0 (pa_cons (pv 0) (pa_cons pe_str pa_nil))) pa_nil)))) pa_nil))))
          (pss_one (ps_if (PW.pt (pw_and (pt_cmpR (op_neD hr.units) (pv 1) (pe_lst pa_nil) (nomark _)) (pw_and1 (pt_cmpR op_lt (pv 8) pe_int (nomark _)))))
            (pss_one (ps_expr (pe_bm PySem.F.plainAttrs_list PySem.F.slot_list_append PySem.F.type_list_append mt_append (pv 5) (pa_cons (callG GR hq hr (by rfl) gR kR bR .nil pass0 (pa_cons (pv 0) (pa_cons (pv 1) (pa_cons (pv 2) (pa_cons (pv 5) pa_nil))))) pa_nil))))
            (pss_one (ps_if (PW.pt (pw_and (pt_cmpR op_eq (pv 8) pe_int (nomark _)) (pw_and1 (pt_cmpR op_eq (callG GD hq hr (by rfl) gD kD bD .nil pass0 (pa_cons (pv 0) (pa_cons pe_int pa_nil))) pe_int (nomark _)))))
              (pss_one (ps_expr (pe_bm PySem.F.plainAttrs_list PySem.F.slot_list_append PySem.F.type_list_append mt_append (pv 5) (pa_cons (pe_tup (pa_cons pe_str pa_nil)) pa_nil))))
              (pss_one (ps_expr (pe_bm PySem.F.plainAttrs_list PySem.F.slot_list_append PySem.F.type_list_append mt_append (pv 5) (pa_cons (callG GL hq hr (by rfl) gL kL bL .nil pass0 (pa_cons (pv 0) (pa_cons (pe_op op_sub (pe_op op_sub (pv 6) (pv 7)) pe_int) (pa_cons (pv 2) (pa_cons (pv 4) pa_nil))))) pa_nil))))))))))))))
    (pss_one (ps_ret (pv 5)))), ?_⟩
  refine ⟨Nat.zero_le _, fun D zD => ?_⟩
  have d0 : Drew p H (upd H D (.lst [])) := Drew.of pot (Ex.new zD)
  have Dn : D ≠ p := (Drew.refl pot).neq zD
  have lm : ((most : Int) + 1).natAbs.log2 < 9000 := Nat.lt_of_le_of_lt (Nat.log2_le_self _) (by omega)
  refine ⟨.ref p, rfl, .int (most : Int), rfl, (most : Int), 1, rfl, rfl, p, (most : Int) + 1, rfl, by omega, lm, d0.pot, fun s0 H1 s00 s01 r1 => ⟨.ref D, .int s0, rfl, ?_⟩⟩
  obtain ⟨sz, rfl⟩ := Int.eq_ofNat_of_zero_le s00
  have md0 : Made p ts H H1 D sz 0 [] [] := ⟨d0.trans r1, r1.at Dn upd_same, trivial, rfl, (fun _ h => nomatch h), (fun _ h => nomatch h), fun j us h => by simp at h⟩
  refine ⟨.int (sz : Int), rfl, sz, rfl, by omega, by omega, for_range (lo := 0) (n := (sz : Int).toNat) (fun i σ H' => ∃ y7 y8 ys vss, σ = [some (.ref p), some (.ref tg), some (.ref lb), some (.int (most : Int)), some (.bl main), some (.ref D), some (.int (sz : Int)), y7, y8] ∧ Made p ts H H' D sz i ys vss ∧ (main = true → ∀ us ∈ vss, noX us))
    ⟨none, none, [], [], rfl, md0, (fun _ _ h => nomatch h)⟩ (fun i σ H2 hi hP => ?_) (fun σ H2 hP => ?_)⟩
  · obtain ⟨y7, y8, ys, vss, rfl, md2, nxs⟩ := hP
    have nxa : ∀ {us : List V}, (main = true → noX us) → main = true → ∀ u ∈ vss ++ [us], noX u := fun {us} h hm u hu => by
      rcases List.mem_append.mp hu with z | z
      · exact nxs hm u z
      · rw [List.mem_singleton.mp z]
        exact h hm
    have hi' : i < sz := by omega
    have e0 : ((0 : Int) + (i : Int)) = (i : Int) := Int.zero_add _
    have lv := md2.len
    have ly := md2.st.length
    refine q_asgAny ⟨.ref p, rfl, p, 12, rfl, by decide, by decide +kernel, md2.dr.pot, fun wy H3 w0 w12 r3 => ?_⟩
    have md3 := md2.drew Dn r3
    have szl : ys.length < sizeLine := sz_lt (by omega)
    -- the test of the modules
    have tst : ∀ {H' : Hp} {n : Int}, Made p ts H H' D sz i ys vss → EvT (tAnd (tTest (tOp (rNeD K) (tVar 1) (tLst tNil))) (tTest (tOp (rI0 fun a b => .bl (decide (a < b))) (tVar 8) (tC (.int n))))) [some (.ref p), some (.ref tg), some (.ref lb), some (.int (most : Int)), some (.bl main), some (.ref D), some (.int (sz : Int)), some (.int ((0 : Int) + i)), some (.int wy)] H' (!ts.isEmpty && decide (wy < n)) := fun {H' n} md =>
      et_and (et_test (ev_neNilB rfl (md.dr.at tn htg) hts)) fun _ => et_test (ev_op (ev_var rfl) ev_c rv_I0)
    refine s_if (tst md3) (fun hb0 H4 e4 => ?_) (fun _ H4 e4 => ?_)
    · have md4 := md3.drew Dn (Drew.of md3.dr.pot e4)
      have t1 := t1_of hb0
      refine ⟨.ref D, rfl, .inl ⟨rfl, _, sq_of md4.hD⟩, .ref p, rfl, .ref tg, rfl, p, md4.dr.pot, .inl ⟨tg, _, rfl, tn, md4.dr.at tn htg, by rw [List.length_map]; omega, by rw [List.length_map]; omega, fun v H5 hv r5 => ⟨by show 2 ≤ sizeLine; decide, fun t zt => ?_⟩⟩⟩
      obtain ⟨nm, hnm, rfl⟩ := List.mem_map.mp hv
      have so := st_need (hts nm hnm)
      have r6 := r5.new (o := .tup [.str "need", .str nm]) zt
      exact ⟨D, ys, .ref t, rfl, rfl, r6.at Dn md4.hD, szl, _, _, _, _, rfl, md4.add zD Dn hi' (fresh_drew r5 md4.dr.pot zt) upd_same (stepV_ok so rfl).1 (stepV_ok so rfl).2 (modIn_yes (i := 1) (by decide +kernel) rfl hnm) (before_ne _ so.step (by decide +kernel)) r6, nxa fun _ => noX_ne (by decide +kernel)⟩
    have md4 := md3.drew Dn (Drew.of md3.dr.pot e4)
    refine s_if (tst md4) (fun hb0 H5 e5 => ?_) (fun _ H5 e5 => ?_)
    · have md5 := md4.drew Dn (Drew.of md4.dr.pot e5)
      have t1 := t1_of hb0
      refine ⟨.ref D, rfl, .inl ⟨rfl, _, sq_of md5.hD⟩, .ref p, rfl, .ref tg, rfl, p, md5.dr.pot, .inl ⟨tg, _, rfl, tn, md5.dr.at tn htg, by rw [List.length_map]; omega, by rw [List.length_map]; omega, fun v H6 hv r6 => ?_⟩⟩
      obtain ⟨nm, hnm, rfl⟩ := List.mem_map.mp hv
      refine ⟨.ref p, rfl, p, r6.pot, .inr ⟨"abcd", rfl, by decide +kernel, by decide +kernel, fun c H7 hc r7 => ⟨by show 3 ≤ sizeLine; decide, fun t zt => ?_⟩⟩⟩
      have v1 := abcd_var c hc
      generalize (⟨#[c]⟩ : Str) = y1 at v1
      have so := st_try (hts nm hnm) v1
      have r8 := (r6.trans r7).new (o := .tup [.str "try", .str nm, .str y1]) zt
      exact ⟨D, ys, .ref t, rfl, rfl, r8.at Dn md5.hD, szl, _, _, _, _, rfl, md5.add zD Dn hi' (fresh_drew (r6.trans r7) md5.dr.pot zt) upd_same (stepV_ok so rfl).1 (stepV_ok so rfl).2 (modIn_yes (i := 1) (by decide +kernel) rfl hnm) (before_ne _ so.step (by decide +kernel)) r8, nxa fun _ => noX_ne (by decide +kernel)⟩
    have md5 := md4.drew Dn (Drew.of md4.dr.pot e5)
    refine s_if (tst md5) (fun hb0 H6 e6 => ?_) (fun _ H6 e6 => ?_)
    · have md6 := md5.drew Dn (Drew.of md5.dr.pot e6)
      have t1 := t1_of hb0
      exact ⟨.ref D, rfl, .inl ⟨rfl, _, sq_of md6.hD⟩, .ref p, rfl, .ref tg, rfl, .ref lb, rfl, .ref D, rfl, p, tg, lb, D, ts, ls, ys, vss, sz - i - 1, rfl, md6.dr.pot, tn, md6.dr.at tn htg, t1, t100, hts, ln, md6.dr.at ln hlb, l1, l100, hls, Dn, md6.hD, md6.st, by omega, fun us h => (md6.ok us h).1, md6.mi,
        fun t us H7 zt hT sv hn mi bf r7 nx => ⟨D, ys, .ref t, rfl, rfl, r7.at Dn md6.hD, szl, _, _, _, _, rfl, md6.add zD Dn hi' zt hT sv hn mi bf r7, nxa fun _ => nx rfl⟩⟩
    have md6 := md5.drew Dn (Drew.of md5.dr.pot e6)
    have ea : ((sz : Int) - ((0 : Int) + (i : Int)) - 1) = ((sz - i - 1 : Nat) : Int) := by omega
    refine et_test (ev_op (ev_var rfl) ev_c (rv_eq rfl)) H6 (Ex.refl H6) _ fun H7 e7 => ?_
    have md7 := md6.drew Dn (Drew.of md6.dr.pot e7)
    by_cases h8 : V.int wy = V.int 8
    · rw [decide_eq_true h8]
      refine ⟨.ref p, rfl, p, 3, rfl, by decide, by decide +kernel, md7.dr.pot, fun c H8 c0 c3 r8 => ⟨rfl, _, rfl, ?_⟩⟩
      have md8 := md7.drew Dn r8
      by_cases hc : V.int c = V.int 0
      · rw [decide_eq_true hc]
        refine ⟨.ref D, rfl, .inl ⟨rfl, _, sq_of md8.hD⟩, by show 1 ≤ sizeLine; decide, fun t zt => ?_⟩
        have so := st_fail
        have r9 := (Drew.refl md8.dr.pot).new (o := .tup [.str "fail"]) zt
        exact ⟨D, ys, .ref t, rfl, rfl, r9.at Dn md8.hD, szl, _, _, _, _, rfl, md8.add zD Dn hi' zt upd_same (stepV_ok so rfl).1 (stepV_ok so rfl).2 (modIn_no (by decide +kernel)) (before_ne _ so.step (by decide +kernel)) r9, nxa fun _ => noX_ne (by decide +kernel)⟩
      · rw [decide_eq_false hc]
        exact ⟨.ref D, rfl, .inl ⟨rfl, _, sq_of md8.hD⟩, .ref p, rfl, .int (sz : Int), rfl, .int ((0 : Int) + i), rfl, (sz : Int), (0 : Int) + i, rfl, rfl, (sz : Int) - ((0 : Int) + i), 1, rfl, rfl, .ref lb, rfl, .bl main, rfl, p, lb, ls, sz - i - 1, main, by rw [← ea]; rfl, md8.dr.pot, ln, md8.dr.at ln hlb, l1, l100, hls, by omega,
          fun t us H9 zt hT sv hn mi bf r9 nx => ⟨D, ys, .ref t, rfl, rfl, r9.at Dn md8.hD, szl, _, _, _, _, rfl, md8.add zD Dn hi' zt hT sv hn (mi.mono fun _ h => nomatch h) bf r9, nxa nx⟩⟩
    · rw [decide_eq_false h8]
      exact ⟨.ref D, rfl, .inl ⟨rfl, _, sq_of md7.hD⟩, .ref p, rfl, .int (sz : Int), rfl, .int ((0 : Int) + i), rfl, (sz : Int), (0 : Int) + i, rfl, rfl, (sz : Int) - ((0 : Int) + i), 1, rfl, rfl, .ref lb, rfl, .bl main, rfl, p, lb, ls, sz - i - 1, main, by rw [← ea]; rfl, md7.dr.pot, ln, md7.dr.at ln hlb, l1, l100, hls, by omega,
        fun t us H9 zt hT sv hn mi bf r9 nx => ⟨D, ys, .ref t, rfl, rfl, r9.at Dn md7.hD, szl, _, _, _, _, rfl, md7.add zD Dn hi' zt hT sv hn (mi.mono fun _ h => nomatch h) bf r9, nxa nx⟩⟩
  · obtain ⟨y7, y8, ys, vss, rfl, md, nxs⟩ := hP
    have es : (sz : Int).toNat = sz := by omega
    rw [es] at md
    exact ⟨.ref D, rfl, q D ys vss sz H2 zD (by omega) md nxs⟩
end
end Cr
/-! data that are drawn: expressions by the data that they give, beside a pot -/
namespace Cr
open PySem PySem.Spec PyProof.Rows L2 Evl
theorem Drew.dt {p : Addr} {H H' : Hp} {v : V} {d : PyData} (r : Drew p H H') (h : Dt (wo p H) v d) : Dt (wo p H') v d := Dt.ex r.ex h
theorem Drew.dts {p : Addr} {H H' : Hp} {vs : List V} {ds : List PyData} (r : Drew p H H') (h : DtAll (wo p H) vs ds) : DtAll (wo p H') vs ds := DtAll.ex r.ex h
theorem dt_wo {p : Addr} {H : Hp} {v : V} {d : PyData} (h : Dt (wo p H) v d) : Dt H v d := Dt.ex (wo_ex p H) h
/-- a new object beside the pot -/
theorem Drew.put {p l : Addr} {H H' : Hp} {o : HO} (r : Drew p H H') (z : H' l = none) : Drew p H (upd H' l o) ∧ l ≠ p ∧ wo p (upd H' l o) l = some o := by
  have n := r.neq z
  exact ⟨r.new z, n, by rw [wo_ne n, upd_same]⟩
/-! ### n == j, n a number in a variable -/
end Cr
/-! the law's own order: a list mixed -/
namespace Cr
open PySem PySem.Spec PyProof.Rows L2 Evl
abbrev sMixed : Stmt := topS 54
abbrev nMixed : List Str := ["_law_pot_here", "_law_options", "_law_rest", "_law_found"]
theorem scMixed : FnScope nMixed ["_law_pot_here", "_law_options"] (defScope sMixed) := ⟨rfl, rfl, rfl, by decide +kernel, rfl, by decide +kernel, by decide +kernel⟩
def spMixed : Sp := fun vs H Q _ => ∃ (p lo : Addr) (xs : List V) (ds : List PyData), vs = [.ref p, .ref lo] ∧ Pot H p ∧ lo ≠ p ∧ H lo = some (.lst xs) ∧ DtAll (wo p H) xs ds ∧ ds.length ≤ 1000 ∧ (∀ es, (∀ e ∈ es, e ∈ ds) → SeqAt.shaped (.list es) = true) ∧
  ∀ (l : Addr) (bs : List (V × PyData)) (H' : Hp), H l = none → Drew p H H' → H' l = some (.lst (bs.map (·.1))) → bs.Perm (xs.zip ds) → Q (.ref l) H'
theorem erase_perm {α : Type} : ∀ {l : List α} {k : Nat} {b : α}, l[k]? = some b → (b :: l.eraseIdx k).Perm l
  | a :: r, 0, b, h => by cases h; exact List.Perm.refl _
  | a :: r, k + 1, b, h => (List.Perm.swap a b _).trans (List.Perm.cons a (erase_perm (l := r) h))
theorem map_erase {α β : Type} (f : α → β) : ∀ (l : List α) (k : Nat), (l.map f).eraseIdx k = (l.eraseIdx k).map f
  | [], k => by simp
  | a :: r, 0 => rfl
  | a :: r, k + 1 => by
    show f a :: (r.map f).eraseIdx k = f a :: (r.eraseIdx k).map f
    rw [map_erase f r k]
theorem eqv_nil (d : PyData) (ds : List PyData) : PyData.eqv (.list (d :: ds)) (.list []) = false := by simp [PyData.eqv, PyData.eqvAll]
section
variable {P : Program} {w : World} {K : PySem.W.Frag} {mg : Str → Option Value} {base : Heap}
theorem ok_mixed {f : Addr} {fd : FuncData} {k : Nat} (F : Fun K "_law_mixed" "_law_mixed" sMixed f fd) (B : Blt mg) (h1 : Has P w K mg base k "_law_draw" ["_law_pot_here", "_law_bound"] spDraw) : FnG P w K mg base CX0 (k + 1) f fd ["_law_pot_here", "_law_options"] spMixed := by
  obtain ⟨f1, d1, G1, b1, k1, g1⟩ := h1.ex
  refine okG F scMixed (fun vs H Q E h => by obtain ⟨_, _, _, _, rfl, _⟩ := h; rfl) (fun cdv A outer s H vs Q E hq hr h => ?_)
  obtain ⟨p, lo, xs, ds, rfl, pot, nlo, hlo, hxs, lds, sha, q⟩ := h
  refine ⟨_, pss_cons (ps_par (i := 2) (j := 3) (by rfl) scMixed.nd rfl rfl (by decide) rfl rfl (pa_cons (pe_callTy call_list_of (by rfl) B.list bList (pa_cons (pv 1) pa_nil)) (pa_cons (pe_lst pa_nil) pa_nil)) (by rfl))
    (pss_cut (ps_while PassesOwn.never (pt_cmpR (op_neDt hr.units) (pv 2) (pe_lst pa_nil) (nomark _))
      (pss_one (ps_expr (pe_bm PySem.F.plainAttrs_list PySem.F.slot_list_append PySem.F.type_list_append mt_append (pv 3) (pa_cons (pe_bm PySem.F.plainAttrs_list PySem.F.slot_list_pop PySem.F.type_list_pop mt_popAt (pv 2) (pa_cons (callG G1 hq hr (by rfl) g1 k1 b1 .nil pass0 (pa_cons (pv 0) (pa_cons (pe_callB call_len_seq (by rfl) B.len bLen (pa_cons (pv 2) pa_nil)) pa_nil))) pa_nil)) pa_nil)))))
    (pss_one (ps_ret (pv 3)))), ?_⟩
  obtain ⟨z1, z2, z3⟩ := dtAll_zip hxs
  have lx := dtAll_len hxs
  refine ⟨.ref lo, rfl, lo, xs, rfl, .inl (sq_of hlo), fun lr zr => ⟨by show 0 ≤ sizeLine; decide, fun lf zf => ⟨.ref lr, .ref lf, rfl, ?_⟩⟩⟩
  dsimp only
  have e1 := Ex.new (o := .lst xs) zr
  have e2 := Ex.new (o := .lst []) zf
  have r2 : Drew p H (upd (upd H lr (.lst xs)) lf (.lst [])) := Drew.of pot (e1.trans e2)
  have zf0 : H lf = none := fresh_back e1 zf
  have hr2 : (upd (upd H lr (.lst xs)) lf (.lst [])) lr = some (.lst xs) := e2 _ _ upd_same
  have hf2 : (upd (upd H lr (.lst xs)) lf (.lst [])) lf = some (.lst []) := upd_same
  have nrf : lr ≠ lf := ne_of_none upd_same zf
  have nrp : lr ≠ p := (Drew.refl pot).neq zr
  have nfp : lf ≠ p := (Drew.refl pot).neq zf0
  generalize upd (upd H lr (.lst xs)) lf (.lst []) = H2 at r2 hr2 hf2
  show tCut _ _ _ [some (.ref p), some (.ref lo), some (.ref lr), some (.ref lf)] H2
  refine q_cut (M := fun σ H' => σ = [some (.ref p), some (.ref lo), some (.ref lr), some (.ref lf)] ∧ ∃ bs : List (V × PyData), bs.Perm (xs.zip ds) ∧ H' lf = some (.lst (bs.map (·.1))) ∧ Drew p H H') ?_ ?_
  rotate_left
  · rintro σ H3 ⟨rfl, bs, pm, hf, r3⟩
    exact ⟨.ref lf, rfl, q lf bs H3 zf0 r3 hf pm⟩
  refine s_while (fun m σ H' => σ = [some (.ref p), some (.ref lo), some (.ref lr), some (.ref lf)] ∧ ∃ fb rb : List (V × PyData), (fb ++ rb).Perm (xs.zip ds) ∧ H' lf = some (.lst (fb.map (·.1))) ∧ H' lr = some (.lst (rb.map (·.1))) ∧ Drew p H H' ∧ rb.length = m) xs.length ⟨rfl, [], xs.zip ds, List.Perm.refl _, hf2, by rw [z3]; exact hr2, r2, by have := congrArg List.length z3; rw [List.length_map] at this; exact this⟩ ?_
  rintro m σ H3 ⟨rfl, fb, rb, pm, hf, hrb, r3, hm⟩
  have mem : ∀ b ∈ rb, b ∈ xs.zip ds := fun b hb => pm.mem_iff.mp (List.mem_append_right _ hb)
  have drb : DtAll (wo p H) (rb.map (·.1)) (rb.map (·.2)) := dtAll_of fun b hb => z1 b (mem b hb)
  have drb3 : Dt H3 (.ref lr) (.list (rb.map (·.2))) := .lst hrb (DtAll.ex (wo_ex _ _) (DtAll.ex r3.ex drb))
  have dsm : ∀ e ∈ rb.map (·.2), e ∈ ds := fun e he => by
    obtain ⟨b, hb, rfl⟩ := List.mem_map.mp he
    have := List.mem_map_of_mem (f := (·.2)) (mem b hb)
    rw [z2] at this
    exact this
  have lpm := pm.length_eq
  rw [List.length_append, List.length_zip] at lpm
  refine ⟨!PyData.eqv (.list (rb.map (·.2))) (.list []), et_neD (evd_var rfl drb3) (evd_lst evda_nil (by show 0 ≤ 1000; decide)) (sha _ dsm) (sha [] (by simp)), fun hb H4 e4 => ?_, fun hb H4 e4 => ?_⟩
  rotate_left
  · have n0 : rb = [] := by
      cases rb with
      | nil => rfl
      | cons b r => rw [List.map_cons, eqv_nil] at hb; exact absurd hb (by decide)
    subst n0
    rw [List.append_nil] at pm
    exact ⟨rfl, fb, pm, e4 _ _ hf, r3.trans (Drew.of r3.pot e4)⟩
  have rp : 0 < rb.length := by
    cases rb with
    | nil => exact absurd hb (by simp [PyData.eqv, PyData.eqvAll])
    | cons b r => exact Nat.succ_pos _
  have r4 := r3.trans (Drew.of r3.pot e4)
  refine ⟨fun σ H' => σ = [some (.ref p), some (.ref lo), some (.ref lr), some (.ref lf)] ∧ ∃ fb rb' : List (V × PyData), (fb ++ rb').Perm (xs.zip ds) ∧ H' lf = some (.lst (fb.map (·.1))) ∧ H' lr = some (.lst (rb'.map (·.1))) ∧ Drew p H H' ∧ rb'.length < rb.length, fun σ2 H5 ⟨e, fb', rb', a1, a2, a3, a4, a5⟩ => ⟨rb'.length, by omega, e, fb', rb', a1, a2, a3, a4, rfl⟩, ?_⟩
  refine ⟨.ref lf, rfl, .inl ⟨rfl, _, sq_of (e4 _ _ hf)⟩, .ref lr, rfl, .inl ⟨rfl, _, sq_of (e4 _ _ hrb)⟩, .ref p, rfl, .ref lr, rfl, lr, _, rfl, .inl (sq_of (e4 _ _ hrb)), p, _, rfl, ?_, ?_, r4.pot, fun c H5 c0 c1 r5 => ?_⟩
  · rw [List.length_map]; omega
  · rw [List.length_map]
    refine Nat.lt_of_le_of_lt (Nat.log2_le_self _) ?_
    omega
  rw [List.length_map] at c1
  have cl : c.toNat < rb.length := by omega
  have r45 := r4.trans r5
  have hrb5 := r5.at nrp (e4 _ _ hrb)
  have hf5 := r5.at nfp (e4 _ _ hf)
  refine ⟨lr, rb.map (·.1), c, c.toNat, rb[c.toNat].1, rfl, rfl, hrb5, by omega, by omega, ?_, by rw [List.getElem?_map, List.getElem?_eq_getElem cl]; rfl, ?_⟩
  · exact seqIndex_of c0 (by rw [List.length_map]; omega)
  have hf6 : (upd H5 lr (.lst ((rb.map (·.1)).eraseIdx c.toNat))) lf = some (.lst (fb.map (·.1))) := by rw [upd_ne nrf.symm]; exact hf5
  refine ⟨lf, fb.map (·.1), rb[c.toNat].1, rfl, rfl, hf6, sz_lt (by rw [List.length_map]; omega), rfl, fb ++ [rb[c.toNat]], rb.eraseIdx c.toNat, ?_, ?_, ?_, ?_, ?_⟩
  · refine List.Perm.trans ?_ pm
    rw [List.append_assoc]
    exact List.Perm.append_left _ (erase_perm (List.getElem?_eq_getElem cl))
  · rw [upd_same, List.map_append]; rfl
  · rw [upd_ne nrf, upd_same, map_erase]
  · exact (r45.mut zr nrp).mut zf0 nfp
  · rw [List.length_eraseIdx_of_lt cl]; omega
end
end Cr
/-! _law_modules: the dict of a library, drawn -/
namespace Cr
open PySem PySem.Spec PyProof.Rows L2 Evl
abbrev sLMo : Stmt := topS 59
abbrev pLMo : List Str := ["_law_pot_here", "_law_most", "_law_longest", "_law_is_acyclic"]
abbrev nLMo : List Str := ["_law_pot_here", "_law_most", "_law_longest", "_law_is_acyclic", "_law_names", "_law_order", "_law_labels", "_law_found", "_law_name", "_law_later"]
theorem scLMo : FnScope nLMo pLMo (defScope sLMo) := ⟨rfl, rfl, rfl, by decide +kernel, rfl, by decide +kernel, by decide +kernel⟩
/-- needs go onward in this order -/
def isRdD : List PyData → Bool
  | .str z :: _ => decide (z = "read")
  | _ => false
/-- what a step needs or tries is among these -/
def okGo (ns : List Str) (ds : List PyData) : Bool := isRdD ds || okMod ns ds
theorem okGo_of {ns : List Str} {ds : List PyData} (h : okMod ns ds = true) : okGo ns ds = true := by
  unfold okGo
  rw [h, Bool.or_true]
def Onward (ord : List Str) (L : Lib) : Prop := ord.Perm (L.map (·.1)) ∧ ∀ r ∈ L, ∀ ds ∈ r.2, okGo (ord.drop (ord.idxOf r.1 + 1)) ds = true
def spLMo : Sp := fun vs H Q _ => ∃ (p : Addr) (most longest : Nat) (acyc : Bool), vs = [.ref p, .int (most : Int), .int (longest : Int), .bl acyc] ∧ Pot H p ∧ 1 ≤ most ∧ most ≤ 40 ∧ longest ≤ 30 ∧
  ∀ (t D lb : Addr) (ls : List Str) (L : Lib) (H' : Hp), H t = none → Drew p H H' → H' t = some (.tup [.ref D, .ref lb]) → H D = none → D ≠ p → Dt (wo p H') (.ref D) (libD L) → LibOk L → L.length ≤ most → (∀ r ∈ L, r.2.length ≤ longest) → (acyc = true → ∃ ord, Onward ord L) →
    lb ≠ p → H' lb = some (.lst (ls.map V.str)) → ls.length = 2 → (∀ x ∈ ls, isNameS x = true) → Q (.ref t) H'
theorem perm_strs {xs : List V} {ns : List Str} (h : xs.Perm (ns.map V.str)) : ∃ os : List Str, xs = os.map V.str ∧ os.Perm ns := by
  let g : V → Str := fun v => match v with
    | .str x => x
    | _ => ""
  refine ⟨xs.map g, ?_, ?_⟩
  · rw [List.map_map]
    refine ((List.map_congr_left (g := id) fun v hv => ?_).trans (List.map_id _)).symm
    obtain ⟨x, _, rfl⟩ := List.mem_map.mp (h.mem_iff.mp hv)
    rfl
  · have z := h.map g
    rw [List.map_map] at z
    exact z.trans (List.Perm.of_eq ((List.map_congr_left (g := id) fun x _ => rfl).trans (List.map_id _)))
theorem fl_intM {us : List V} {i : Int} (h : PyData.int i ∈ us.map flD) : V.int i ∈ us := by
  obtain ⟨v, hv, e⟩ := List.mem_map.mp h
  cases v with
  | int j =>
    have e : PyData.int j = .int i := e
    cases e
    exact hv
  | _ => exact nomatch e
def progV (vss : List (List V)) : Prog := vss.map (·.map flD)
theorem progV_D (vss : List (List V)) : (progV vss).map PyData.tuple = stepsD vss := by
  unfold progV stepsD
  rw [List.map_map]
  rfl
theorem made_prog {p : Addr} {ts : List Str} {H H' : Hp} {D : Addr} {sz : Nat} {ys : List V} {vss : List (List V)} (h30 : sz ≤ 30) (md : Made p ts H H' D sz sz ys vss) (Dn : D ≠ p) : ProgV (progV vss) ∧ (∀ ds ∈ progV vss, okMod ts ds = true) ∧ (progV vss).length ≤ sz ∧ Dt (wo p H') (.ref D) (progD (progV vss)) := by
  have l : (progV vss).length = sz := by unfold progV; rw [List.length_map, md.len]
  have mem : ∀ ds ∈ progV vss, ∃ us ∈ vss, ds = us.map flD := fun ds h => by
    obtain ⟨us, hu, e⟩ := List.mem_map.mp h
    exact ⟨us, hu, e.symm⟩
  refine ⟨⟨by omega, fun ds h => ?_, fun j ds h => ?_, fun ds h i hi => ?_⟩, fun ds h => ?_, by omega, ?_⟩
  · obtain ⟨us, hu, rfl⟩ := mem ds h
    exact (md.ok us hu).1.step
  · unfold progV at h
    rw [List.getElem?_map] at h
    cases hv : vss[j]? with
    | none => rw [hv] at h; cases h
    | some us =>
      rw [hv] at h
      cases h
      rw [l]
      exact md.bf j us hv
  · obtain ⟨us, hu, rfl⟩ := mem ds h
    exact (md.ok us hu).2 i (fl_intM hi)
  · obtain ⟨us, hu, rfl⟩ := mem ds h
    unfold okMod
    cases hm : modO (.tuple (us.map flD)) with
    | none => rfl
    | some x => exact decide_eq_true (md.mi us hu x hm)
  · obtain ⟨i, j, hp, _⟩ := md.dr.pot
    have tp : Tps H' (wo p H') := fun a xs h => by
      rw [wo_ne (fun e => by rw [e, hp] at h; cases h)]
      exact h
    refine .lst (by rw [wo_ne Dn]; exact md.hD) ?_
    rw [progV_D]
    exact Steps.dt (md.st.tps tp) fun us hu => stepV_flat (md.ok us hu).1
theorem okMod_mono {ns ns' : List Str} (h : ∀ x ∈ ns, x ∈ ns') {ds : List PyData} (o : okMod ns ds = true) : okMod ns' ds = true := by
  unfold okMod at o ⊢
  cases hm : modO (.tuple ds) with
  | none => rfl
  | some x =>
    rw [hm] at o
    exact decide_eq_true (h x (of_decide_eq_true o))
theorem idx_of {os : List Str} {n : Str} (h : n ∈ os) : os[os.idxOf n]? = some n := by
  have l := List.idxOf_lt_length_of_mem h
  rw [List.getElem?_eq_getElem l, List.getElem_idxOf]
theorem strs_sha {es : List PyData} {ns : List Str} (hn : ∀ x ∈ ns, isNameS x = true) (h : ∀ e ∈ es, e ∈ ns.map PyData.str) : SeqAt.shaped (.list es) = true := by
  have go : ∀ es : List PyData, (∀ e ∈ es, e ∈ ns.map PyData.str) → PyData.canLayAll0 es = true ∧ PyData.depthAll es = 0 := by
    intro es
    induction es with
    | nil => exact fun _ => ⟨rfl, rfl⟩
    | cons e r ih =>
      intro h
      obtain ⟨a, b⟩ := ih fun z hz => h z (List.mem_cons_of_mem _ hz)
      obtain ⟨x, hx, rfl⟩ := List.mem_map.mp (h e List.mem_cons_self)
      rw [PyData.canLayAll0, PyData.depthAll, a, b, PyData.canLay0, name_strOk (hn x hx)]
      exact ⟨rfl, rfl⟩
  obtain ⟨a, b⟩ := go es h
  unfold SeqAt.shaped
  rw [PyData.canLay0, a, PyData.depth, b]
  rfl
section
variable {P : Program} {w : World} {K : PySem.W.Frag} {mg : Str → Option Value} {base : Heap}
theorem ok_lmo {f : Addr} {fd : FuncData} {k : Nat} (F : Fun K "_law_modules" "_law_modules" sLMo f fd) (B : Blt mg) (h1 : Has P w K mg base k "_law_draw" ["_law_pot_here", "_law_bound"] spDraw) (h2 : Has P w K mg base k "_law_words" ["_law_pot_here", "_law_number"] spWords)
    (h3 : Has P w K mg base k "_law_mixed" ["_law_pot_here", "_law_options"] spMixed) (h4 : Has P w K mg base k "_law_program" pGen spGen) : FnG P w K mg base CX0 (k + 1) f fd pLMo spLMo := by
  obtain ⟨f1, d1, G1, b1, k1, g1⟩ := h1.ex
  obtain ⟨f2, d2, G2, b2, k2, g2⟩ := h2.ex
  obtain ⟨f3, d3, G3, b3, k3, g3⟩ := h3.ex
  obtain ⟨f4, d4, G4, b4, k4, g4⟩ := h4.ex
  refine okG F scLMo (fun vs H Q E h => by obtain ⟨_, _, _, _, rfl, _⟩ := h; rfl) (fun cdv A outer s H vs Q E hq hr h => ?_)
  obtain ⟨p, most, longest, acyc, rfl, pot, m1, m40, l30, q⟩ := h
  have hu := hu_of hr
  refine ⟨_, pss_cons (ps_set (i := 4) scLMo.nd rfl (.inl rfl) (callG (E := E0) G2 hq hr (by rfl) g2 k2 b2 .nil pass0 (pa_cons (pv 0) (pa_cons (pe_op op_add pe_int (callG (E := E0) G1 hq hr (by rfl) g1 k1 b1 .nil pass0 (pa_cons (pv 0) (pa_cons (pv 1) pa_nil)))) pa_nil))))
    (pss_cons (ps_par (i := 5) (j := 6) (by rfl) scLMo.nd rfl rfl (by decide) rfl rfl (pa_cons (callG (E := E0) G3 hq hr (by rfl) g3 k3 b3 .nil pass0 (pa_cons (pv 0) (pa_cons (pv 4) pa_nil))) (pa_cons (callG (E := E0) G2 hq hr (by rfl) g2 k2 b2 .nil pass0 (pa_cons (pv 0) (pa_cons pe_int pa_nil))) pa_nil)) (by rfl))
    (pss_cons (ps_set (i := 7) scLMo.nd rfl (.inl rfl) pe_dnewK)
    (pss_cons (ps_for PassesOwn.never rfl (pi_list (pv 4)) (pg_name (i := 8) scLMo.nd rfl (.inl rfl))
      (pss_cons (ps_set (i := 9) scLMo.nd rfl (.inl rfl) (pe_slice sl_list (pv 5) (po_some (pe_op op_add (pe_bm PySem.F.plainAttrs_list PySem.F.slot_list_index PySem.F.type_list_index mt_index (pv 5) (pa_cons (pv 8) pa_nil)) pe_int)) po_none))
      (pss_one (ps_dput hu (pv 7) (pv 8) (callG (E := E0) G4 hq hr (by rfl) g4 k4 b4 .nil pass0 (pa_cons (pv 0) (pa_cons (pe_ifExp (pt_val (pv 3)) (pv 9) (pv 4)) (pa_cons (pv 6) (pa_cons (pv 2) (pa_cons pe_bl pa_nil)))))) rfl))))
    (pss_one (ps_ret (pe_tup (pa_cons (pv 7) (pa_cons (pv 6) pa_nil)))))))), ?_⟩
  have lgn : ∀ {n : Nat}, n ≤ 1000 → (n : Int).natAbs.log2 < 9000 := fun {n} h => Nat.lt_of_le_of_lt (Nat.log2_le_self _) (by omega)
  refine q_asgAny ⟨.ref p, rfl, .ref p, rfl, .int (most : Int), rfl, p, (most : Int), rfl, by omega, lgn (by omega), pot, fun c H1 c0 c1 r1 => ⟨1, c, rfl, rfl, p, (1 + c).toNat, ?_, r1.pot, by omega, fun nl ns H2 znl hnl lns ndn hns r2 => ?_⟩⟩
  · have e : (((1 + c).toNat : Nat) : Int) = 1 + c := by omega
    rw [e]; rfl
  have r12 := r1.trans r2
  have nlp : nl ≠ p := (Drew.refl r1.pot).neq znl
  show tSeq _ _ _ [some (.ref p), some (.int (most : Int)), some (.int (longest : Int)), some (.bl acyc), some (.ref nl), none, none, none, none, none] H2
  refine ⟨.ref p, rfl, .ref nl, rfl, p, nl, ns.map V.str, ns.map PyData.str, rfl, r12.pot, nlp, hnl, dts_strs ns, by rw [List.length_map]; omega, fun es he => strs_sha hns he, fun ol bs H3 zol r3 hol pm => ?_⟩
  have r13 := r12.trans r3
  obtain ⟨os, eos, pos⟩ : ∃ os : List Str, bs.map (·.1) = os.map V.str ∧ os.Perm ns := by
    refine perm_strs ?_
    have z := pm.map (·.1)
    have e : (ns.map V.str |>.zip (ns.map PyData.str)).map (·.1) = ns.map V.str := List.map_fst_zip (by rw [List.length_map, List.length_map]; exact Nat.le_refl _)
    rw [e] at z
    exact z
  rw [eos] at hol
  have olp : ol ≠ p := (Drew.refl r12.pot).neq zol
  have hnl3 := r3.at nlp hnl
  refine ⟨.ref p, rfl, p, 2, rfl, r13.pot, by decide, fun lb ls H4 zlb hlb lls ndl hls r4 => ⟨.ref ol, .ref lb, rfl, ?_⟩⟩
  have r14 := r13.trans r4
  have lbp : lb ≠ p := (Drew.refl r13.pot).neq zlb
  have hnl4 := r4.at nlp hnl3
  have hol4 := r4.at olp hol
  dsimp only
  show tSeq _ _ _ [some (.ref p), some (.int (most : Int)), some (.int (longest : Int)), some (.bl acyc), some (.ref nl), some (.ref ol), some (.ref lb), none, none, none] H4
  refine q_asgAny ?_
  intro D zD
  have Dp : D ≠ p := (Drew.refl r14.pot).neq zD
  have zD0 : H D = none := by
    cases hh : H D with
    | none => rfl
    | some o => exact absurd (r14.at Dp hh) (by rw [zD]; exact fun z => nomatch z)
  have r15 : Drew p H (upd H4 D (.dK [])) := r14.new zD
  have nn : ∀ {c : Addr} {o : HO}, H4 c = some o → c ≠ D := fun h => ne_of_none h zD
  have hnl5 : (upd H4 D (.dK [])) nl = some (.lst (ns.map V.str)) := by rw [upd_ne (nn hnl4)]; exact hnl4
  have hol5 : (upd H4 D (.dK [])) ol = some (.lst (os.map V.str)) := by rw [upd_ne (nn hol4)]; exact hol4
  have hlb5 : (upd H4 D (.dK [])) lb = some (.lst (ls.map V.str)) := by rw [upd_ne (nn hlb)]; exact hlb
  have hD5 : (upd H4 D (.dK [])) D = some (.dK []) := upd_same
  have nlD := nn hnl4
  have olD := nn hol4
  have lbD := nn hlb
  generalize upd H4 D (.dK []) = H5 at r15 hnl5 hol5 hlb5 hD5 ⊢
  show tSeq _ _ _ [some (.ref p), some (.int (most : Int)), some (.int (longest : Int)), some (.bl acyc), some (.ref nl), some (.ref ol), some (.ref lb), some (.ref D), none, none] H5
  have lV : (ns.map V.str).length = ns.length := List.length_map ..
  refine ⟨.ref nl, rfl, nl, rfl, ⟨_, sq_of hnl5⟩, for_list (fun i σ H' => (∃ y8 y9, σ = [some (.ref p), some (.int (most : Int)), some (.int (longest : Int)), some (.bl acyc), some (.ref nl), some (.ref ol), some (.ref lb), some (.ref D), y8, y9]) ∧ Drew p H H' ∧ H' nl = some (.lst (ns.map V.str)) ∧ H' ol = some (.lst (os.map V.str)) ∧ H' lb = some (.lst (ls.map V.str)) ∧
      ∃ kv L, H' D = some (.dK kv) ∧ LKv (wo p H') kv L ∧ L.map (·.1) = ns.take i ∧ (∀ r ∈ L, ProgV r.2 ∧ r.2.length ≤ longest ∧ (∀ ds ∈ r.2, okMod ns ds = true) ∧ (acyc = true → ∀ ds ∈ r.2, okMod (os.drop (os.idxOf r.1 + 1)) ds = true)))
    ⟨⟨_, _, rfl⟩, r15, hnl5, hol5, hlb5, [], [], hD5, .nil, rfl, fun r hr => nomatch hr⟩ (fun i σ H' _ h => sq_of h.2.2.1) (fun i x σ H6 hi hP => ?_) (fun σ H6 hP => ?_)⟩
  · obtain ⟨⟨y8, y9, rfl⟩, r6, hnl6, hol6, hlb6, kv, L, hD6, hkv, hnm, hall⟩ := hP
    have hil : i < ns.length := by
      have := (List.getElem?_eq_some_iff.mp hi).1
      omega
    rw [List.getElem?_map, List.getElem?_eq_getElem hil] at hi
    cases hi
    obtain ⟨n, hn⟩ : ∃ n, ns[i] = n := ⟨_, rfl⟩
    rw [hn]
    have hmem : n ∈ ns := by rw [← hn]; exact List.getElem_mem hil
    have homem : n ∈ os := pos.mem_iff.mpr hmem
    have lL : L.length = i := by
      have z := congrArg List.length hnm
      rw [List.length_map, List.length_take] at z
      omega
    have nnm := hns n hmem
    have los : os.length = ns.length := pos.length_eq
    show tSeq _ _ _ [some (.ref p), some (.int (most : Int)), some (.int (longest : Int)), some (.bl acyc), some (.ref nl), some (.ref ol), some (.ref lb), some (.ref D), some (.str n), y9] H6
    refine q_asgAny ?_
    have ix := idx_of homem
    have lix := List.idxOf_lt_length_of_mem homem
    refine ⟨.ref ol, rfl, .ref ol, rfl, .inl ⟨rfl, _, sq_of hol6⟩, .str n, rfl, ol, os.map V.str, .str n, os.idxOf n, .str n, rfl, rfl, sq_of hol6, rfl, flat_strs os, by rw [List.getElem?_map, ix]; rfl, by show (n == n) = true; exact beq_self_eq_true n, fun m z' hm hz' => ?_, ((os.idxOf n : Nat) : Int), 1, rfl, rfl, ?_⟩
    · rw [List.getElem?_map] at hz'
      cases hom : os[m]? with
      | none => rw [hom] at hz'; cases hz'
      | some y =>
        rw [hom] at hz'
        cases hz'
        show (y == n) = false
        refine beq_eq_false_iff_ne.mpr fun e => ?_
        have hml : m < os.length := (List.getElem?_eq_some_iff.mp hom).1
        have e2 : os[m] = n := by
          rw [List.getElem?_eq_getElem hml] at hom
          exact (Option.some.inj hom).trans e
        have hne := List.not_of_lt_findIdx (p := (· == n)) (xs := os) (i := m) hm
        rw [e2] at hne
        exact absurd (beq_self_eq_true n) (by simpa using hne)
    refine ⟨(((os.idxOf n : Nat) : Int) + 1), rfl, ol, os.map V.str, rfl, sq_of hol6, fun la zla => ?_⟩
    have ec : cutV (os.map V.str) (some (((os.idxOf n : Nat) : Int) + 1)) none = (os.drop (os.idxOf n + 1)).map V.str := by
      rw [List.map_drop]
      exact cutV_from' (xs := os.map V.str) (os.idxOf n + 1)
    rw [ec]
    have lap : la ≠ p := (Drew.refl r6.pot).neq zla
    have r7 : Drew p H6 (upd H6 la (.lst ((os.drop (os.idxOf n + 1)).map V.str))) := (Drew.refl r6.pot).new zla
    have hla7 : (upd H6 la (.lst ((os.drop (os.idxOf n + 1)).map V.str))) la = some (.lst ((os.drop (os.idxOf n + 1)).map V.str)) := upd_same
    generalize upd H6 la (.lst ((os.drop (os.idxOf n + 1)).map V.str)) = H7 at r7 hla7 ⊢
    have r67 := r6.trans r7
    obtain ⟨tg, ts, htgp, htg, hts, htl, htn, hsl⟩ : ∃ (tg : Addr) (ts : List Str), tg ≠ p ∧ H7 tg = some (.lst (ts.map V.str)) ∧ (tg = if acyc = true then la else nl) ∧ ts.length ≤ 100 ∧ (∀ x ∈ ts, x ∈ ns) ∧ (acyc = true → ts = os.drop (os.idxOf n + 1)) := by
      cases acyc with
      | true => exact ⟨la, _, lap, hla7, rfl, by rw [List.length_drop]; omega, fun x hx => pos.mem_iff.mp (List.mem_of_mem_drop hx), fun _ => rfl⟩
      | false => exact ⟨nl, ns, nlp, r7.at nlp hnl6, rfl, by omega, fun x hx => hx, fun z => nomatch z⟩
    have evT : Ev (tIf (tB (tVar 3)) (tVar 9) (tVar 4)) [some (.ref p), some (.int (most : Int)), some (.int (longest : Int)), some (.bl acyc), some (.ref nl), some (.ref ol), some (.ref lb), some (.ref D), some (.str n), some (.ref la)] H7 (.ref tg) := by
      rw [hts]
      cases acyc with
      | true => exact ev_if (b := true) (et_B (ev_var rfl)) (fun _ => ev_var rfl) (fun z => nomatch z)
      | false => exact ev_if (b := false) (et_B (ev_var rfl)) (fun z => nomatch z) (fun _ => ev_var rfl)
    refine ⟨.ref p, rfl, evT H7 (Ex.refl H7) _ fun H8 e8 => ⟨.ref lb, rfl, .int (longest : Int), rfl, p, tg, lb, ts, ls, longest, false, rfl, r67.pot.ex e8, htgp, e8 _ _ htg, htl, fun x hx => hns x (htn x hx), lbp, e8 _ _ (r7.at lbp hlb6), by omega, by omega, hls, by omega, fun Dl ys vss sz H9 zDl hsz md _ => ?_⟩⟩
    have r8 := r7.trans (Drew.of r67.pot e8)
    have r69 := r8.trans md.dr
    have Dlp : Dl ≠ p := (Drew.refl (r67.pot.ex e8)).neq zDl
    obtain ⟨v1, v2, v3, v4⟩ := made_prog (by omega) md Dlp
    have hD9 := r69.at Dp hD6
    refine ⟨.ref D, rfl, .str n, rfl, D, _, rfl, DPut.k (k := Sum.inr n) hD9 (by rw [lkv_len hkv, sizeLine_eq]; omega), ?_⟩
    have nin : (Sum.inr n : Key) ∉ kv.map (·.1) := by
      rw [lkv_keys hkv]
      intro hm
      obtain ⟨r, hr, er⟩ := List.mem_map.mp hm
      have er := Sum.inr.inj er
      have hm2 : n ∈ ns.take i := by rw [← hnm, ← er]; exact List.mem_map_of_mem hr
      have nd := ndn
      rw [← List.take_append_drop i ns, List.nodup_append] at nd
      refine nd.2.2 n hm2 n ?_ rfl
      rw [List.mem_iff_getElem?]
      exact ⟨0, by rw [List.getElem?_drop, Nat.add_zero, List.getElem?_eq_getElem hil, hn]⟩
    rw [putK_new nin]
    have kp : KeepLT (wo p H9) (wo p (upd H9 D (.dK (kv ++ [(Sum.inr n, .ref Dl)])))) := keep_but (dd := D) (fun a o h hb => by rw [upd_ne (fun e => h (by rw [e]; exact List.mem_singleton.mpr rfl))]; exact hb) hD9
    have sv : ∀ r ∈ L, ∀ ds ∈ r.2, isStep (.tuple ds) = true := fun r hr => (hall r hr).1.st
    have r0 : Drew p H H9 := r6.trans r69
    refine ⟨⟨_, _, rfl⟩, r0.mut zD0 Dp, by rw [upd_ne nlD]; exact r69.at nlp hnl6, by rw [upd_ne olD]; exact r69.at olp hol6, by rw [upd_ne lbD]; exact r69.at lbp hlb6, _, L ++ [(n, progV vss)], upd_same, lkv_snoc (n := n) (Dt.keepLT kp (ndt_prog v1.st) v4) (lkv_keep kp sv (DtKv.ex r69.ex hkv)), ?_, fun r hr => ?_⟩
    · rw [List.map_append, hnm, List.take_add_one, List.getElem?_eq_getElem hil, hn]
      rfl
    · rcases List.mem_append.mp hr with h | h
      · exact hall r h
      · rw [List.mem_singleton.mp h]
        exact ⟨v1, by show (progV vss).length ≤ longest; omega, fun ds hd => okMod_mono htn (v2 ds hd), fun ha ds hd => by have z := v2 ds hd; rw [hsl ha] at z; exact z⟩
  · obtain ⟨⟨y8, y9, rfl⟩, r6, hnl6, hol6, hlb6, kv, L, hD6, hkv, hnm, hall⟩ := hP
    rw [lV, List.take_length] at hnm
    refine ⟨.ref D, rfl, .ref lb, rfl, by show 2 ≤ sizeLine; decide, fun t zt => ?_⟩
    have e7 : Ex H6 (upd H6 t (.tup [.ref D, .ref lb])) := Ex.new zt
    have r7 := r6.new (o := .tup [.ref D, .ref lb]) zt
    have lL : L.length = ns.length := by
      have z := congrArg List.length hnm
      rw [List.length_map] at z
      exact z
    have zt0 : H t = none := by
      cases hh : H t with
      | none => rfl
      | some o =>
        have tp : t ≠ p := (Drew.refl r6.pot).neq zt
        exact absurd (r6.at tp hh) (by rw [zt]; exact fun z => nomatch z)
    refine q t D lb ls L _ zt0 r7 upd_same zD0 Dp (.dct (by rw [wo_ne Dp]; exact e7 _ _ hD6) (DtKv.ex (Ex.wo e7) hkv)) ⟨⟨fun r hr => hns r.1 (by rw [← hnm]; exact List.mem_map_of_mem hr), by rw [hnm]; exact ndn, by omega, by omega, fun r hr => (hall r hr).1⟩, fun r hr => by rw [hnm]; exact (hall r hr).2.2.1⟩ (by omega) (fun r hr => (hall r hr).2.1) (fun ha => ⟨os, by rw [hnm]; exact pos, fun r hr ds hds => okGo_of ((hall r hr).2.2.2 ha ds hds)⟩) lbp (e7 _ _ hlb6) lls hls
end
end Cr
/-! plain runs (pure): where needs go onward every run ends; what ended stays in order -/
namespace Cr
open PySem PySem.Spec PyProof.Rows L2 Evl
/-! ### the same programs, the same runs -/
theorem initS_congr {L L' : Lib} (h : ∀ md, progL L md = progL L' md) : ∀ n, initS L n = initS L' n
  | 0 => rfl
  | n + 1 => by
    funext s md
    rw [init_succ, init_succ, initS_congr h n, h md]
theorem progL_srt {L : Lib} (v : LibV L) (md : Str) : progL (srtL L) md = progL L md := by
  by_cases hm : md ∈ L.map (·.1)
  · obtain ⟨r, hr, rfl⟩ := List.mem_map.mp hm
    rw [progL_in v.nd hr, progL_in (srt_v v).nd ((mem_srt v.nd r).mpr hr)]
  · have e1 : rowL L md = none := by
      unfold rowL
      rw [List.find?_eq_none]
      exact fun r hr e => hm (List.mem_map.mpr ⟨r, hr, of_decide_eq_true e⟩)
    have e2 : rowL (srtL L) md = none := by
      unfold rowL
      rw [List.find?_eq_none]
      exact fun r hr e => hm (List.mem_map.mpr ⟨r, (mem_srt v.nd r).mp hr, of_decide_eq_true e⟩)
    unfold progL
    rw [e1, e2]
/-! ### a library's programs are known -/
theorem prog_mi {ns : List Str} {p : Prog} (pv : ProgV p) (h : ∀ ds ∈ p, okMod ns ds = true) : ∀ us ∈ vsP p, ModIn ns us := fun us hu x hx => by
  obtain ⟨ds, hds, rfl⟩ := List.mem_map.mp hu
  have e := (step_vs (pv.st ds hds)).1
  rw [e] at hx
  have z := h ds hds
  unfold okMod at z
  rw [hx] at z
  exact of_decide_eq_true z
def labsL (L : Lib) : List Str := L.flatMap fun r => labP r.2
theorem labs_len {L : Lib} (v : LibV L) : (labsL L).length ≤ 2000 := by
  have go : ∀ {L : Lib}, (∀ r ∈ L, ProgV r.2) → (labsL L).length ≤ L.length * 30 := by
    intro L
    induction L with
    | nil => exact fun _ => Nat.le_refl _
    | cons r L ih =>
      intro h
      have a := ih fun r hr => h r (List.mem_cons_of_mem _ hr)
      have b := labP_len r.2
      have c := (h r List.mem_cons_self).len
      unfold labsL at a ⊢
      rw [List.flatMap_cons, List.length_append, List.length_cons]
      omega
  have := go v.ok
  have := v.l40
  omega
theorem progL_mem {L : Lib} (nd : (L.map (·.1)).Nodup) {n : Str} {ds : List PyData} (h : ds ∈ progL L n) : ∃ r ∈ L, r.1 = n ∧ progL L n = r.2 := by
  unfold progL at h ⊢
  cases z : rowL L n with
  | none => rw [z] at h; exact nomatch h
  | some r => exact ⟨r, (rowL_mem z).1, (rowL_mem z).2, rfl⟩
theorem libU_of {L : Lib} (ok : LibOk L) : LibU (labsL L) L := by
  have lr := progL_v ok.v
  refine ⟨⟨lr, fun n => ⟨vsP_or (lr.pv n), prog_mi (lr.pv n) fun ds hds => ?_, fun us hu a b e => ?_⟩⟩, ok.v, labs_len ok.v⟩
  · obtain ⟨r, hr, _, er⟩ := progL_mem ok.v.nd hds
    rw [er] at hds
    exact ok.mi r hr ds hds
  · obtain ⟨ds, hds, _⟩ := List.mem_map.mp hu
    obtain ⟨r, hr, _, er⟩ := progL_mem ok.v.nd hds
    refine List.mem_flatMap.mpr ⟨r, hr, ?_⟩
    rw [← er]
    refine List.mem_filterMap.mpr ⟨us, hu, ?_⟩
    rw [e]
    show (if ("export" : Str) = "export" then some a else none) = some a
    exact if_pos rfl
/-! ### every run ends -/
def isRdV : List V → Bool
  | .str z :: _ => decide (z = "read")
  | _ => false
theorem rd_need {md : Str} : isRdV [.str "need", .str md] = false := by
  show decide (("need" : Str) = "read") = false
  decide +kernel
theorem rd_try {md x : Str} : isRdV [.str "try", .str md, .str x] = false := by
  show decide (("try" : Str) = "read") = false
  decide +kernel
theorem prog_go {ns : List Str} {p : Prog} (pv : ProgV p) (h : ∀ ds ∈ p, okGo ns ds = true) : ∀ us ∈ vsP p, isRdV us = true ∨ ModIn ns us := fun us hu => by
  obtain ⟨ds, hds, rfl⟩ := List.mem_map.mp hu
  have e := (step_vs (pv.st ds hds)).1
  have z := h ds hds
  unfold okGo at z
  rw [Bool.or_eq_true] at z
  rcases z with z | z
  · left
    rw [← e] at z
    generalize ds.map dV = us at z
    match us, z with
    | .str y :: r, z => exact z
  · right
    intro x hx
    rw [e] at hx
    unfold okMod at z
    rw [hx] at z
    exact of_decide_eq_true z
theorem step_tot {ini : ScF} {me : Option Str} {us : List V} {ts : List Str} (hus : PlainV us ∨ OtherV us) (hm : isRdV us = true ∨ ModIn ts us) {m : M4} {seen : List Str} {s : Sc} (ht : ∀ md ∈ ts, ∃ r, ini s md = .ok r) : ∀ c, stepX ini me us m seen s ≠ .cyc c := fun c h => by
  rcases hus with hp | ov
  · rw [stepX_plain hp] at h
    cases h
  · cases ov with
    | exp => rw [stepX_exp] at h; cases h
    | read _ => rw [stepX_read] at h; cases h
    | @need md =>
      rw [stepX_need] at h
      have hm := hm.resolve_left (by rw [rd_need]; decide)
      obtain ⟨⟨b, s2⟩, hr⟩ := ht md (need_in hm)
      rw [hr] at h
      cases b <;> cases h
    | @try_ md x _ =>
      rw [stepX_try] at h
      have hm := hm.resolve_left (by rw [rd_try]; decide)
      obtain ⟨⟨b, s2⟩, hr⟩ := ht md (try_in hm)
      rw [hr] at h
      cases b <;> cases h
    | fail => rw [stepX_fail] at h; cases h
theorem exec_tot {ini : ScF} (gi : GoodI ini) {me : Option Str} {vss : List (List V)} {ts op0 : List Str} (po : ∀ us ∈ vss, PlainV us ∨ OtherV us) (hm : ∀ us ∈ vss, isRdV us = true ∨ ModIn ts us) (ht : ∀ s md, WfS s → s.op = op0 → md ∈ ts → ∃ r, ini s md = .ok r) : ∀ (f pos : Nat) {m : M4} {seen : List Str} {s : Sc}, WfS s → s.op = op0 → (∀ n, me = some n → n ∈ keysA s.ex) → (∀ k ∈ seen, k ∈ keysA s.ex) → ∃ r, execS ini me vss f pos m seen s = .ok r
  | 0, _, _, _, _, _, _, _, _ => ⟨_, rfl⟩
  | f + 1, pos, m, seen, s, wf, ho, hme, hs => by
    rw [exec_succ]
    cases hp : vss[pos]? with
    | none => exact ⟨_, rfl⟩
    | some us =>
      dsimp only
      have hin := List.mem_of_getElem? hp
      cases hx : stepX ini me us m seen s with
      | go d m2 seen2 s2 =>
        obtain ⟨_, g, w, hs2⟩ := step_gr gi (po us hin) wf hme hs hx
        exact exec_tot gi po hm ht f (pos + d) w (g.op.trans ho) (fun n e => g.ex n (hme n e)) hs2
      | halt m2 s2 => exact ⟨_, rfl⟩
      | cyc c => exact absurd hx (step_tot (po us hin) (hm us hin) (fun md h => ht s md wf ho h) c)
theorem idx_drop {os : List Str} (nd : os.Nodup) {i : Nat} {x : Str} (h : x ∈ os.drop i) : i ≤ os.idxOf x := by
  obtain ⟨j, hj⟩ := List.mem_iff_getElem?.mp h
  rw [List.getElem?_drop] at hj
  have hx := List.mem_of_getElem? hj
  have e := idx_of hx
  have : os.idxOf x = i + j := (List.getElem?_inj (List.idxOf_lt_length_of_mem hx) nd).mp (e.trans hj.symm)
  omega
theorem init_tot {L : Lib} {ord : List Str} (v : LibV L) (on : Onward ord L) : ∀ (n : Nat) {s : Sc} {md : Str}, WfS s → md ∈ ord → (∀ k ∈ s.op, ord.idxOf k < ord.idxOf md) → ord.length ≤ n + ord.idxOf md → ∃ r, initS L n s md = .ok r
  | 0, s, md, _, hm, _, hl => by
    have := List.idxOf_lt_length_of_mem hm
    omega
  | n + 1, s, md, wf, hm, ho, hl => by
    have lr := progL_v v
    have nd : ord.Nodup := on.1.nodup_iff.mpr v.nd
    rw [init_succ, if_neg (fun h => Nat.lt_irrefl _ (ho md h))]
    cases hg : getA s.rs md with
    | some b => exact ⟨_, rfl⟩
    | none =>
      have hmn : md ∈ L.map (·.1) := on.1.mem_iff.mp hm
      obtain ⟨r, hr, rfl⟩ := List.mem_map.mp hmn
      have hk : r.1 ∈ keysA (putA s.ex r.1 ([] : Ints)) := putA_mem.mpr (.inl rfl)
      have ep := progL_in v.nd hr
      obtain ⟨q, hq⟩ := exec_tot (init_good lr n) (me := some r.1) (vss := vsP (progL L r.1)) (ts := ord.drop (ord.idxOf r.1 + 1)) (op0 := s.op ++ [r.1]) (vsP_or (lr.pv r.1)) (prog_go (lr.pv r.1) (by rw [ep]; exact on.2 r hr)) (fun s1 md1 w1 h1 hm1 => by
        have z := idx_drop nd hm1
        refine init_tot v on n w1 (List.mem_of_mem_drop hm1) (fun k hk => ?_) (by omega)
        rw [h1] at hk
        rcases List.mem_append.mp hk with h | h
        · have := ho k h
          omega
        · rw [List.mem_singleton.mp h]
          omega) ((progL L r.1).length + 1) 0 (m := .zero) (seen := [r.1]) (s := ⟨s.op ++ [r.1], s.rs, putA s.ex r.1 []⟩) (wf_begin wf) rfl (fun k hk' => by cases hk'; exact hk) (fun k hk' => by rw [List.mem_singleton.mp hk']; exact hk)
      obtain ⟨b, m2, s2⟩ := q
      dsimp only
      rw [hq]
      exact ⟨_, rfl⟩
/-! ### what ended stays in order -/
def GoodP (ini : ScF) : Prop := ∀ s md b s', ini s md = .ok (b, s') → keysA s.rs <+: keysA s'.rs
theorem step_pre {ini : ScF} (gp : GoodP ini) {me : Option Str} {us : List V} (hus : PlainV us ∨ OtherV us) {m m' : M4} {seen : List Str} {s s' : Sc}
    (h : (∃ d seen', stepX ini me us m seen s = .go d m' seen' s') ∨ stepX ini me us m seen s = .halt m' s') : keysA s.rs <+: keysA s'.rs := by
  rcases hus with hp | ov
  · rw [stepX_plain hp] at h
    rcases h with ⟨d, seen', h⟩ | h
    · cases h; exact List.prefix_refl _
    · cases h
  · cases ov with
    | exp =>
      rw [stepX_exp] at h
      rcases h with ⟨d, seen', h⟩ | h
      · cases h
        cases me <;> exact List.prefix_refl _
      · cases h
    | read _ =>
      rw [stepX_read] at h
      rcases h with ⟨d, seen', h⟩ | h
      · cases h; exact List.prefix_refl _
      · cases h
    | @need md =>
      rw [stepX_need] at h
      cases hi : ini s md with
      | error c => rw [hi] at h; rcases h with ⟨d, seen', h⟩ | h <;> cases h
      | ok r =>
        obtain ⟨b, s2⟩ := r
        have g := gp s md b s2 hi
        rw [hi] at h
        cases b with
        | false => rcases h with ⟨d, seen', h⟩ | h <;> cases h; exact g
        | true => rcases h with ⟨d, seen', h⟩ | h <;> cases h; exact g
    | @try_ md x _ =>
      rw [stepX_try] at h
      cases hi : ini s md with
      | error c => rw [hi] at h; rcases h with ⟨d, seen', h⟩ | h <;> cases h
      | ok r =>
        obtain ⟨b, s2⟩ := r
        have g := gp s md b s2 hi
        rw [hi] at h
        cases b with
        | false => rcases h with ⟨d, seen', h⟩ | h <;> cases h; exact g
        | true => rcases h with ⟨d, seen', h⟩ | h <;> cases h; exact g
    | fail =>
      rw [stepX_fail] at h
      rcases h with ⟨d, seen', h⟩ | h
      · cases h
      · cases h; exact List.prefix_refl _
theorem exec_pre {ini : ScF} (gp : GoodP ini) {me : Option Str} {vss : List (List V)} (po : ∀ us ∈ vss, PlainV us ∨ OtherV us) : ∀ (f pos : Nat) {m m' : M4} {seen : List Str} {s s' : Sc} {b : Bool}, execS ini me vss f pos m seen s = .ok (b, m', s') → keysA s.rs <+: keysA s'.rs
  | 0, _, _, _, _, s, s', _, h => by
    cases h
    exact List.prefix_refl _
  | f + 1, pos, m, m', seen, s, s', b, h => by
    rw [exec_succ] at h
    cases hp : vss[pos]? with
    | none =>
      rw [hp] at h
      cases h
      exact List.prefix_refl _
    | some us =>
      rw [hp] at h
      dsimp only at h
      have hin := List.mem_of_getElem? hp
      cases hx : stepX ini me us m seen s with
      | go d m2 seen2 s2 =>
        rw [hx] at h
        exact (step_pre gp (po us hin) (.inl ⟨d, seen2, hx⟩)).trans (exec_pre gp po f (pos + d) h)
      | halt m2 s2 =>
        rw [hx] at h
        cases h
        exact step_pre gp (po us hin) (.inr hx)
      | cyc c => rw [hx] at h; cases h
theorem init_pre {L : Lib} (lr : LibR L) : ∀ n, GoodP (initS L n)
  | 0 => fun s md b s' h => by cases h
  | n + 1 => fun s md b s' h => by
    rw [init_succ] at h
    by_cases h1 : md ∈ s.op
    · rw [if_pos h1] at h
      cases h
    rw [if_neg h1] at h
    cases h2 : getA s.rs md with
    | some c =>
      rw [h2] at h
      cases h
      exact List.prefix_refl _
    | none =>
      rw [h2] at h
      dsimp only at h
      cases hx : execS (initS L n) (some md) (vsP (progL L md)) ((progL L md).length + 1) 0 .zero [md] ⟨s.op ++ [md], s.rs, putA s.ex md []⟩ with
      | error c => rw [hx] at h; cases h
      | ok r =>
        obtain ⟨e, m2, s2⟩ := r
        rw [hx] at h
        have g := exec_pre (init_pre lr n) (vsP_or (lr.pv md)) _ _ hx
        cases h
        refine g.trans ?_
        show keysA s2.rs <+: keysA (putA s2.rs md b)
        unfold keysA
        rw [putA_keys]
        split
        · exact List.prefix_refl _
        · exact List.prefix_append _ _
end Cr
/-! plain runs in a law: main programs that are drawn one by one, the runs as expressions -/
namespace Cr
open PySem PySem.Spec PyProof.Rows L2 Evl
/-! ### names as data -/
theorem ne_same {te tb : TE} {σ : L2.St} {H : Hp} {d : PyData} (h1 : EvD te σ H d) (h2 : EvD tb σ H d) (hf : Fits d) : EvT (tTest (tOp rNe (tCB rRepr (tCons te tNil)) (tCB rRepr (tCons tb tNil)))) σ H false := et_is (et_test (ev_op (ev_reprD h1 hf) (ev_reprD h2 hf) (rv_ne rfl))) (by rw [decide_eq_true rfl]; rfl)
theorem evd_ixT {K : PySem.W.Frag} {te : TE} {σ : L2.St} {H : Hp} {ds : List PyData} {j : Nat} {d : PyData} (h : EvD te σ H (.tuple ds)) (hd : ds[j]? = some d) : EvD (tOp (rIxT K) te (tC (.int (j : Int)))) σ H d := fun H1 e Q q => h H1 e _ fun v H2 e2 hv => by
  obtain ⟨a, rfl⟩ : ∃ a, v = .ref a := by cases hv; exact ⟨_, rfl⟩
  obtain ⟨xs, ha, hx⟩ := dt_tup hv
  have lx := dtAll_len hx
  have hj := (List.getElem?_eq_some_iff.mp hd).1
  obtain ⟨d', h1, h2⟩ := DtAll.get hx (List.getElem?_eq_getElem (show j < xs.length by omega))
  rw [hd] at h1
  cases h1
  exact ⟨a, xs, (j : Int), xs[j], rfl, rfl, st_of ha, atI_nat (List.getElem?_eq_getElem (by omega)), q _ H2 e2 h2⟩
/-! ### main programs -/
theorem isExp_no {us : List V} (h : StepV us) (n : noX us) : isExport (.tuple (us.map flD)) = false := by
  have no : ∀ {z : Str} {r : List PyData}, (z == "export") = false → isExport (.tuple (.str z :: r)) = false := fun h => h
  rcases plain_or2 h with pl | ov
  · cases pl <;> exact no (by decide +kernel)
  · cases ov with
    | exp => exact absurd rfl (n _ _)
    | read _ => exact no (by decide +kernel)
    | need => exact no (by decide +kernel)
    | try_ _ => exact no (by decide +kernel)
    | fail => exact no (by decide +kernel)
/-- right main programs of a library, their number apart -/
structure MsOk (L M : Lib) : Prop where
  nm : ∀ r ∈ M, isNameS r.1 = true
  nd : (M.map (·.1)).Nodup
  ok : ∀ r ∈ M, ProgV r.2
  mi : ∀ r ∈ M, ∀ ds ∈ r.2, okMod (L.map (·.1)) ds = true
  ne : ∀ r ∈ M, ∀ ds ∈ r.2, isExport (.tuple ds) = false
theorem MsOk.v {L M : Lib} (h : MsOk L M) (l : M.length ≤ 8) : MainsV L M := ⟨h.nm, h.nd, l, h.ok, h.mi, h.ne⟩
theorem MsOk.nil (L : Lib) : MsOk L [] := ⟨(fun _ h => nomatch h), List.nodup_nil, (fun _ h => nomatch h), (fun _ h => nomatch h), (fun _ h => nomatch h)⟩
theorem MsOk.snoc {L M : Lib} (h : MsOk L M) {n : Str} {p : Prog} (hn : isNameS n = true) (nin : n ∉ M.map (·.1)) (pv : ProgV p) (mi : ∀ ds ∈ p, okMod (L.map (·.1)) ds = true) (ne : ∀ ds ∈ p, isExport (.tuple ds) = false) : MsOk L (M ++ [(n, p)]) := by
  have two : ∀ {P : Str × Prog → Prop}, (∀ r ∈ M, P r) → P (n, p) → ∀ r ∈ M ++ [(n, p)], P r := fun h1 h2 r hr => by
    rcases List.mem_append.mp hr with z | z
    · exact h1 r z
    · rw [List.mem_singleton.mp z]; exact h2
  refine ⟨two h.nm hn, ?_, two h.ok pv, two h.mi mi, two h.ne ne⟩
  rw [List.map_append]
  exact List.nodup_append.mpr ⟨h.nd, by simp, fun a ha b hb e => nin (by
    have hb : b = n := List.mem_singleton.mp hb
    rw [← hb, ← e]
    exact ha)⟩
theorem MsOk.srt {L M : Lib} (h : MsOk L M) : MsOk (srtL L) M := ⟨h.nm, h.nd, h.ok, fun r hr ds hd => by
  rw [srt_names, okMod_same (ns' := L.map (·.1)) (fun a => (srtS_perm _).mem_iff)]
  exact h.mi r hr ds hd, h.ne⟩
theorem mains_snoc {ini : ScF} {r : Str × Prog} {b : Bool} {m : M4} {s2 : Sc} : ∀ {M : Lib} {s s1 : Sc} {es : List MEnd}, mainsS ini M s = some (es, s1) → execS ini none (vsP r.2) ((vsP r.2).length + 1) 0 .zero [] s1 = .ok (b, m, s2) → mainsS ini (M ++ [r]) s = some (es ++ [(r.1, b, m)], s2)
  | [], s, s1, es, h, hx => by
    cases h
    show mainsS ini [r] s = _
    unfold mainsS
    rw [hx]
    rfl
  | y :: M, s, s1, es, h, hx => by
    obtain ⟨b1, m1, s3, es3, h1, h2, rfl⟩ := mains_cons h
    have z := mains_snoc h2 hx
    show mainsS ini (y :: (M ++ [r])) s = _
    unfold mainsS
    rw [h1]
    dsimp only
    rw [z]
    rfl
/-- the main programs that were run, what they left -/
structure Run (L : Lib) (n : Nat) (M : Lib) (es : List MEnd) (s : Sc) : Prop where
  ok : MsOk L M
  ms : mainsS (initS L n) M s0S = some (es, s)
  wf : WfS s
  op : s.op = []
theorem Run.nil (L : Lib) (n : Nat) : Run L n [] [] s0S := ⟨.nil L, rfl, wf0, rfl⟩
theorem Run.nmS {L : Lib} {n : Nat} {M : Lib} {es : List MEnd} {s : Sc} (h : Run L n M es s) (ok : LibOk L) : NmS (L.map (·.1)) (labsL L) s := by
  have u := libU_of ok
  have go : ∀ {M : Lib} {s s' : Sc} {es : List MEnd}, (∀ r ∈ M, PgU (labsL L) L none (vsP r.2)) → WfS s → NmS (L.map (·.1)) (labsL L) s → mainsS (initS L n) M s = some (es, s') → NmS (L.map (·.1)) (labsL L) s' := by
    intro M
    induction M with
    | nil => intro s s' es _ _ nm h; cases h; exact nm
    | cons r M ih =>
      intro s s' es pg wf nm h
      obtain ⟨b1, m1, s3, es3, h1, h2, rfl⟩ := mains_cons h
      have p1 := pg r List.mem_cons_self
      obtain ⟨_, w2⟩ := exec_gr (init_good u.n.r n) p1.kn.po _ _ wf (by intro z hz; cases hz) (by intro z hz; cases hz) h1
      exact ih (fun r hr => pg r (List.mem_cons_of_mem _ hr)) w2 (exec_nm (init_good u.n.r n) (init_nm u.n n) p1.kn _ _ wf nm (by intro z hz; cases hz) (by intro z hz; cases hz) h1) h2
  have mv : MainsV L (M.take 0) := (MsOk.nil L).v (by simp)
  have pg : ∀ r ∈ M, PgU (labsL L) L none (vsP r.2) := fun r hr => main_kn (L := L) (M := [r]) ⟨fun y hy => by rw [List.mem_singleton.mp hy]; exact h.ok.nm r hr, by simp, by simp, fun y hy => by rw [List.mem_singleton.mp hy]; exact h.ok.ok r hr, fun y hy => by rw [List.mem_singleton.mp hy]; exact h.ok.mi r hr, fun y hy => by rw [List.mem_singleton.mp hy]; exact h.ok.ne r hr⟩ (List.mem_singleton.mpr rfl)
  exact go pg wf0 (nm0 _ _) h.ms
theorem Run.nm {L : Lib} {n : Nat} {M : Lib} {es : List MEnd} {s : Sc} (h : Run L n M es s) (ok : LibOk L) : ∀ k ∈ keysA s.rs, k ∈ L.map (·.1) := (h.nmS ok).rs
/-- one more -/
theorem Run.more {L : Lib} {n : Nat} {M : Lib} {es : List MEnd} {s : Sc} (h : Run L n M es s) (ok : LibOk L) {ord : List Str} (on : Onward ord L) (hl : ord.length ≤ n) {x : Str} {p : Prog} (hn : isNameS x = true) (nin : x ∉ M.map (·.1)) (pv : ProgV p) (mi : ∀ ds ∈ p, okMod (L.map (·.1)) ds = true) (ne : ∀ ds ∈ p, isExport (.tuple ds) = false) :
    ∃ es' s', Run L n (M ++ [(x, p)]) es' s' ∧ keysA s.rs <+: keysA s'.rs := by
  have lr := progL_v ok.v
  have tot : ∀ s md, WfS s → s.op = [] → md ∈ L.map (·.1) → ∃ r, initS L n s md = .ok r := fun s md wf ho hm => init_tot ok.v on n wf (on.1.mem_iff.mpr hm) (fun k hk => by rw [ho] at hk; exact nomatch hk) (by omega)
  obtain ⟨⟨b, m, s2⟩, hx⟩ := exec_tot (init_good lr n) (me := none) (vss := vsP p) (ts := L.map (·.1)) (op0 := []) (vsP_or pv) (fun us hu => .inr (prog_mi pv mi us hu)) tot ((vsP p).length + 1) 0 (m := .zero) (seen := []) (s := s) h.wf h.op (by intro z hz; cases hz) (by intro z hz; cases hz)
  obtain ⟨gr, w2⟩ := exec_gr (init_good lr n) (vsP_or pv) _ _ h.wf (by intro z hz; cases hz) (by intro z hz; cases hz) hx
  exact ⟨_, s2, ⟨h.ok.snoc hn nin pv mi ne, mains_snoc h.ms hx, w2, gr.op.trans h.op⟩, exec_pre (init_pre lr n) (vsP_or pv) _ _ hx⟩
/-- one more that only sets a variable -/
def setP : Prog := [[.str "set", .str "a", .int 1]]
theorem setP_v : ProgV setP := by
  refine ⟨by decide, fun ds h => ?_, fun j ds h => ?_, fun ds h i hi => ?_⟩
  · rw [List.mem_singleton.mp h]; decide +kernel
  · match j, h with
    | 0, h => cases h; decide +kernel
  · rw [List.mem_singleton.mp h] at hi
    simp at hi
    rw [hi]
    decide
theorem setP_mi (ns : List Str) : ∀ ds ∈ setP, okMod ns ds = true := fun ds h => by
  rw [List.mem_singleton.mp h]
  have e : modO (.tuple [.str "set", .str "a", .int 1]) = none := by decide +kernel
  unfold okMod
  rw [e]
theorem setP_ne : ∀ ds ∈ setP, isExport (.tuple ds) = false := fun ds h => by
  rw [List.mem_singleton.mp h]
  decide +kernel
theorem setP_run (ini : ScF) (s : Sc) : execS ini none (vsP setP) ((vsP setP).length + 1) 0 .zero [] s = .ok (true, memo [.str "set", .str "a", .int 1] .zero, s) := by
  have hp : PlainV [.str "set", .str "a", .int 1] := .set (by decide +kernel)
  show execS ini none [[.str "set", .str "a", .int 1]] 2 0 .zero [] s = _
  rw [exec_at (us := [.str "set", .str "a", .int 1]) rfl, stepX_plain hp]
  dsimp only
  have g : goes [.str "set", .str "a", .int 1] .zero = 1 := by rw [goes_eq, if_neg (fun z => ne_st z.1)]
  rw [g, exec_end rfl]
theorem Run.set {L : Lib} {n : Nat} {M : Lib} {es : List MEnd} {s : Sc} (h : Run L n M es s) {x : Str} (hn : isNameS x = true) (nin : x ∉ M.map (·.1)) : ∃ es', Run L n (M ++ [(x, setP)]) es' s :=
  ⟨_, h.ok.snoc hn nin setP_v (setP_mi _) setP_ne, mains_snoc h.ms (setP_run _ _), h.wf, h.op⟩
theorem Run.srt {L : Lib} {n : Nat} {M : Lib} {es : List MEnd} {s : Sc} (h : Run L n M es s) (v : LibV L) : Run (srtL L) n M es s := ⟨h.ok.srt, by rw [initS_congr (progL_srt v) n]; exact h.ms, h.wf, h.op⟩
/-! ### the runs as expressions -/
theorem PlIn.ex {CL D lib : Addr} {H H' : Hp} {L M : Lib} {labs : List Str} {n : Nat} {es : List MEnd} {s' : Sc} (h : PlIn CL H D lib L M labs n es s') (e : Ex H H') : PlIn CL H' D lib L M labs n es s' := ⟨let ⟨kvs, mn⟩ := h.mn; ⟨kvs, mn.ex e⟩, h.mv, h.lu, h.ms⟩
theorem MdLk.ex {H H' : Hp} {Mn D : Addr} {kvs : List (Key × V)} {L M : Lib} (h : MdLk H Mn D kvs L M) (e : Ex H H') : MdLk H' Mn D kvs L M := by
  have el : ∀ od, Ex (upd H Mn (.frz od (.dK kvs))) (upd H' Mn (.frz od (.dK kvs))) := fun od a o ha => by
    by_cases ea : a = Mn
    · rw [ea, upd_same] at ha ⊢
      exact ha
    · rw [upd_ne ea] at ha ⊢
      exact e _ _ ha
  exact ⟨e _ _ h.d, DtKv.ex e h.k, Dt.ex e h.dm, fun od => DtKv.ex (el od) (h.lk od), fun od => Dt.ex (el od) (h.dl od)⟩
section
variable {σ : L2.St} {H : Hp} {i j : Nat} {CL lib D Mn : Addr} {L M : Lib} {labs : List Str} {n : Nat} {es : List MEnd} {s' : Sc} {tj : TE}
theorem evd_prun (hi : σ[i]? = some (some (.ref lib))) (hj : Ev tj σ H (.ref D)) (pl : PlIn CL H D lib L M labs n es s') : EvD (tCall (spPRun CL n) [] E0 (tCons (tVar i) (tCons tj tNil))) σ H (outD s' es) := fun H1 e Q q =>
  ⟨_, hi, hj H1 e _ fun H2 e2 => ⟨D, lib, L, M, labs, es, s', rfl, pl.ex (e.trans e2), fun v H' e' h => q v H' (e2.trans e') h⟩⟩
end
theorem lb_apart {CL lib Mn : Addr} {H0 H : Hp} {L : Lib} (h : LbAt CL H0 lib L) (k : ∀ o, H0 lib = some o → H lib = some o) (z : H0 Mn = none) : ∀ dx dd, H lib = some (.ins CL dx [("initializers", .ref dd)]) → dd ≠ Mn := fun dx dd h2 => by
  obtain ⟨dx0, dd0, kvs, h3, h4, _⟩ := h.ob
  have y := k _ h3
  rw [h2] at y
  cases y
  exact ne_of_none h4 z
end Cr
/-! the law's own evaluator: what its two defs promise -/
namespace Cr
open PySem PySem.Spec PyProof.Rows L2 Evl
abbrev sDone : Stmt := topS 60
abbrev pDone : List Str := ["_law_scene", "_law_module", "_law_program_here"]
abbrev nDone : List Str := ["_law_scene", "_law_module", "_law_program_here", "_law_box", "_law_seen", "_law_at", "_law_step", "_law_is_ready", "_law_known", "_law_one"]
theorem scDone : FnScope nDone pDone (defScope sDone) := ⟨rfl, rfl, rfl, by decide +kernel, rfl, by decide +kernel, by decide +kernel⟩
abbrev sStarted : Stmt := topS 61
abbrev nStarted : List Str := ["_law_scene", "_law_module", "_law_is_ready"]
theorem scStarted : FnScope nStarted ["_law_scene", "_law_module"] (defScope sStarted) := ⟨rfl, rfl, rfl, by decide +kernel, rfl, by decide +kernel, by decide +kernel⟩
def kvS (Dm : Addr) (A : ScA) : List (Key × V) := [(.inr "modules", .ref Dm), (.inr "states", .ref A.aR), (.inr "exports", .ref A.aE), (.inr "order", .ref A.aO)]
theorem kvS_m {Dm : Addr} {A : ScA} : valV (kvS Dm A) (.inr "modules") = some (.ref Dm) := by rfl
theorem kvS_s {Dm : Addr} {A : ScA} : valV (kvS Dm A) (.inr "states") = some (.ref A.aR) := by rfl
theorem kvS_e {Dm : Addr} {A : ScA} : valV (kvS Dm A) (.inr "exports") = some (.ref A.aE) := by rfl
theorem kvS_o {Dm : Addr} {A : ScA} : valV (kvS Dm A) (.inr "order") = some (.ref A.aO) := by rfl
/-- as the law keeps a scene -/
def lw (s : Sc) : Sc := ⟨keysA s.rs, s.rs, s.ex⟩
theorem WfS.lw {s : Sc} (h : WfS s) : WfS (lw s) := ⟨h.rs, h.rs, h.nr, h.nx, h.ni⟩
structure DnIn (labs : List Str) (L : Lib) (Dm : Addr) (HB H : Hp) (p : Addr) (A : ScA) (s : Sc) (xs : Exs) : Prop where
  hp : HB p = some (.dK (kvS Dm A))
  dm : Dt HB (.ref Dm) (libD L)
  lu : LibU labs L
  sc : CoAt HB H A (lw s) xs
  wf : WfS s
  nm : NmS (L.map (·.1)) labs s
def spDone (n : Nat) : Sp := fun vs H Q _ => ∃ HB L labs p Dm A s xs me pr ys vss b m' s', vs = [.ref p, meV me, .ref pr] ∧ DnIn labs L Dm HB H p A s xs ∧ HB pr = some (.lst ys) ∧ Steps HB ys vss ∧ PgU labs L me vss ∧ (∀ n, me = some n → n ∈ keysA s.ex) ∧ execS (initS L n) me vss (vss.length + 1) 0 .zero (meL me) s = .ok (b, m', s') ∧
  ∀ xs' H' t bx, CoAt HB H' A (lw s') xs' → H' t = some (.tup [.bl b, .ref bx]) → H' bx = some (.dK m'.kv) → But (ownS A xs) H H' → (∀ a ∈ ownS A xs', a ∈ ownS A xs ∨ H a = none) → Q (.ref t) H'
def spStarted (n : Nat) : Sp := fun vs H Q _ => ∃ HB L labs p Dm A s xs md b s', vs = [.ref p, .str md] ∧ DnIn labs L Dm HB H p A s xs ∧ md ∈ L.map (·.1) ∧ getA s.rs md = none ∧ initS L n s md = .ok (b, s') ∧
  ∀ xs' H', CoAt HB H' A (lw s') xs' → But (ownS A xs) H H' → (∀ a ∈ ownS A xs', a ∈ ownS A xs ∨ H a = none) → Q .non H'
/-- where the loop stands -/
structure DoI (labs : List Str) (L : Lib) (Dm : Addr) (HB H0 : Hp) (p : Addr) (A : ScA) (xs : Exs) (me : Option Str) (vss : List (List V)) (bx : Addr) (n : Nat) (r : Bool × M4 × Sc) (H1 : Hp) (pos : Nat) (m : M4) (seen : List Str) (s1 : Sc) (xs1 : Exs) (sl : Addr) (sn : List Str) : Prop where
  pl : pos ≤ vss.length
  di : DnIn labs L Dm HB H1 p A s1 xs1
  mx : ∀ n, me = some n → n ∈ keysA s1.ex
  sx : ∀ q ∈ seen, q ∈ keysA s1.ex
  hb : H1 bx = some (.dK m.kv)
  nb : bx ∉ ownS A xs1
  hs : H1 sl = some (.lst (sn.map V.str))
  ns : sl ∉ ownS A xs1
  rel : ∀ q, q ∈ seen ↔ q ∈ sn ∨ me = some q
  ls : sn.length ≤ pos
  bt : But (bx :: ownS A xs) H0 H1
  nw : ∀ a ∈ ownS A xs1, a ∈ ownS A xs ∨ H0 a = none
  ru : ∃ fu, vss.length < fu + pos ∧ execS (initS L n) me vss fu pos m seen s1 = .ok r
section
variable {labs : List Str} {L : Lib} {Dm : Addr} {HB H0 : Hp} {p : Addr} {A : ScA} {xs : Exs} {me : Option Str} {vss : List (List V)} {bx : Addr} {n : Nat} {r : Bool × M4 × Sc} {H1 H2 : Hp} {pos d : Nat} {m m2 : M4} {seen seen2 : List Str} {s1 s2 : Sc} {xs1 xs2 : Exs} {sl sl2 : Addr} {sn sn2 : List Str} {us : List V}
theorem DnIn.ex (h : DnIn labs L Dm HB H1 p A s1 xs1) (e : Ex H1 H2) : DnIn labs L Dm HB H2 p A s1 xs1 := ⟨h.hp, h.dm, h.lu, h.sc.ex e, h.wf, h.nm⟩
theorem DoI.ex (h : DoI labs L Dm HB H0 p A xs me vss bx n r H1 pos m seen s1 xs1 sl sn) (e : Ex H1 H2) : DoI labs L Dm HB H0 p A xs me vss bx n r H2 pos m seen s1 xs1 sl sn :=
  ⟨h.pl, h.di.ex e, h.mx, h.sx, e _ _ h.hb, h.nb, e _ _ h.hs, h.ns, h.rel, h.ls, h.bt.trans (But.of e), h.nw, h.ru⟩
theorem DoI.new (h : DoI labs L Dm HB H0 p A xs me vss bx n r H1 pos m seen s1 xs1 sl sn) (n2 : ∀ a ∈ ownS A xs2, a ∈ ownS A xs1 ∨ H1 a = none) : ∀ a ∈ ownS A xs2, a ∈ ownS A xs ∨ H0 a = none := fun a ha => by
  rcases n2 a ha with z | z
  · exact h.nw a z
  · by_cases ho : a ∈ ownS A xs
    · exact .inl ho
    · right
      cases h0 : H0 a with
      | none => rfl
      | some o =>
        exfalso
        have nin : a ∉ bx :: ownS A xs := fun y => by
          rcases List.mem_cons.mp y with e | y
          · rw [e, h.hb] at z; cases z
          · exact ho y
        rw [h.bt a o nin h0] at z
        cases z
theorem DoI.bts (h : DoI labs L Dm HB H0 p A xs me vss bx n r H1 pos m seen s1 xs1 sl sn) (b : But (bx :: ownS A xs1) H1 H2) : But (bx :: ownS A xs) H0 H2 := fun a o ha ho => by
  refine b a o (fun y => ha ?_) (h.bt a o ha ho)
  rcases List.mem_cons.mp y with e | y
  · rw [e]; exact List.mem_cons_self
  · rcases h.nw a y with z | z
    · exact List.mem_cons_of_mem _ z
    · rw [ho] at z; cases z
/-- one step on -/
theorem DoI.step (h : DoI labs L Dm HB H0 p A xs me vss bx n r H1 pos m seen s1 xs1 sl sn) (g : PgU labs L me vss) (hus : vss[pos]? = some us) (hx : stepX (initS L n) me us m seen s1 = .go d m2 seen2 s2)
    (hd : pos + d ≤ vss.length) (sc2 : CoAt HB H2 A (lw s2) xs2) (hb2 : H2 bx = some (.dK m2.kv)) (hs2 : H2 sl2 = some (.lst (sn2.map V.str))) (nb2 : bx ∉ ownS A xs2) (ns2 : sl2 ∉ ownS A xs2) (rel2 : ∀ q, q ∈ seen2 ↔ q ∈ sn2 ∨ me = some q) (ls2 : sn2.length ≤ pos + 1) (b2 : But (bx :: ownS A xs1) H1 H2) (n2 : ∀ a ∈ ownS A xs2, a ∈ ownS A xs1 ∨ H1 a = none) :
    DoI labs L Dm HB H0 p A xs me vss bx n r H2 (pos + d) m2 seen2 s2 xs2 sl2 sn2 ∧ 1 ≤ d := by
  have hin := List.mem_of_getElem? hus
  have u := h.di.lu
  obtain ⟨d1, gr, w2, sn2⟩ := step_gr (init_good u.n.r n) (g.kn.po us hin) h.di.wf h.mx h.sx hx
  have nm2 := step_nm (init_nm u.n n) (g.kn.po us hin) (g.kn.mi us hin) (g.kn.la us hin) h.di.wf h.di.nm h.mx (.inl ⟨d, seen2, hx⟩)
  obtain ⟨fu, f1, f2⟩ := h.ru
  have hlt : pos < vss.length := (List.getElem?_eq_some_iff.mp hus).1
  cases fu with
  | zero => omega
  | succ fu =>
    rw [exec_at hus, hx] at f2
    exact ⟨⟨hd, ⟨h.di.hp, h.di.dm, u, sc2, w2, nm2⟩, fun n e => gr.ex n (h.mx n e), sn2, hb2, nb2, hs2, ns2, rel2, by omega, h.bts b2, h.new n2, ⟨fu, by omega, f2⟩⟩, d1⟩
theorem DoI.stop (h : DoI labs L Dm HB H0 p A xs me vss bx n r H1 pos m seen s1 xs1 sl sn) (hus : vss[pos]? = some us) (hx : stepX (initS L n) me us m seen s1 = .halt m2 s2) : r = (false, m2, s2) := by
  obtain ⟨fu, f1, f2⟩ := h.ru
  have hlt : pos < vss.length := (List.getElem?_eq_some_iff.mp hus).1
  cases fu with
  | zero => omega
  | succ fu =>
    rw [exec_at hus, hx] at f2
    cases f2
    rfl
theorem DoI.over (h : DoI labs L Dm HB H0 p A xs me vss bx n r H1 pos m seen s1 xs1 sl sn) (e : pos = vss.length) : r = (true, m, s1) := by
  obtain ⟨fu, f1, f2⟩ := h.ru
  rw [exec_end (List.getElem?_eq_none (by omega))] at f2
  cases f2
  rfl
theorem DoI.ini (h : DoI labs L Dm HB H0 p A xs me vss bx n r H1 pos m seen s1 xs1 sl sn) {md : Str} (hus : vss[pos]? = some us) (nv : NeedV us md) : ∃ b s', initS L n s1 md = .ok (b, s') := by
  obtain ⟨fu, f1, f2⟩ := h.ru
  have hlt : pos < vss.length := (List.getElem?_eq_some_iff.mp hus).1
  cases fu with
  | zero => omega
  | succ fu =>
    rw [exec_at hus] at f2
    cases hi : initS L n s1 md with
    | ok r => exact ⟨r.1, r.2, rfl⟩
    | error c =>
      cases nv with
      | need => rw [stepX_need, hi] at f2; cases f2
      | try_ _ => rw [stepX_try, hi] at f2; cases f2
end
end Cr
/-! the law's own evaluator: _law_done -/
namespace Cr
open PySem PySem.Spec PyProof.Rows L2 Evl
section
variable {P : Program} {w : World} {K : PySem.W.Frag} {mg : Str → Option Value} {base : Heap}
theorem ok_done {f : Addr} {fd : FuncData} {k n : Nat} (F : Fun K "_law_done" "_law_done" sDone f fd) (B : Blt mg) (h1 : HasO P w K mg base k "_law_started" ["_law_scene", "_law_module"] (spStarted n)) : FnOk P w K mg base CX0 (k + 1) f fd pDone (spDone n) := by
  obtain ⟨f1, d1, G1, b1, k1, g1⟩ := h1.ex
  refine F.ok scDone (fun vs H Q E h => by obtain ⟨_, _, _, _, _, _, _, _, _, _, _, _, _, _, _, rfl, _⟩ := h; rfl) (fun cdv A outer s H vs Q E hr h => ?_)
  obtain ⟨HB, L, labs, p, Dm, A', s, xs, me, pr, ys, vss, b, m', s', rfl, di, hpr, hst, pg, hme, hrun, q⟩ := h
  have hu := hu_of hr
  refine ⟨_, pss_cons (ps_par3 (i := 3) (j := 4) (l := 5) (by rfl) scDone.nd rfl rfl rfl (by decide) (by decide) (by decide) rfl rfl rfl (pa_cons (pe_callTy (call_dictP (by rfl)) (by rfl) B.dict bDict (pa_cons (pe_lc (own := [("_law_one", 9)]) (g := gName 9) (tt := tYes) (te := tTup (tCons (tVar 9) (tCons (tC (.int 0)) tNil))) rfl scDone.nd (pi_str pe_str) (blkOk_by (own := [("_law_one", 9)]) (N := nDone) (sc := defScope sDone) (by decide +kernel))
        (fun _ _ _ _ _ => pg_name (i := 9) scDone.nd rfl (Or.inl rfl)) (fun _ _ _ _ _ => pts_nil) (fun _ _ _ _ _ => by exact pe_tup (pa_cons (pv 9) (pa_cons pe_int pa_nil)))) pa_nil)) (pa_cons (pe_lst pa_nil) (pa_cons pe_int pa_nil))) (by rfl))
    (pss_cut (ps_while PassesOwn.never (pt_cmpR op_lt (pv 5) (pe_callB call_len_seq (by rfl) B.len bLen (pa_cons (pv 2) pa_nil)) (nomark _))
      (pss_cons (ps_par (i := 6) (j := 5) (by rfl) scDone.nd rfl rfl (by decide) rfl rfl (pa_cons (pe_ix ix_list (pv 2) (pv 5) (fun _ _ => rfl)) (pa_cons (pe_op op_add (pv 5) pe_int) pa_nil)) (by rfl))
      (pss_cons (ps_if (pt_cmpR op_eq (pe_ix ix_tup (pv 6) pe_int (fun _ _ => rfl)) pe_str (nomark _)) (pss_one (ps_ret (pe_tup (pa_cons pe_bl (pa_cons (pv 3) pa_nil))))) pss_nil)
      (pss_one (ps_if (pt_cmpR op_in_seq (pe_ix ix_tup (pv 6) pe_int (fun _ _ => rfl)) (pe_tup (pa_cons pe_str (pa_cons pe_str pa_nil))) (by rfl))
        (pss_cut (ps_if (pt_cmp (pc_dnotin hu (pe_ix ix_tup (pv 6) pe_int (fun _ _ => rfl)) (pe_dget hu (pv 0) pe_str (fun _ _ => rfl)))) (pss_one (ps_expr (pe_call (E := E0) G1 hr (by rfl) g1 k1 b1 .nil pass0 (pa_cons (pv 0) (pa_cons (pe_ix ix_tup (pv 6) pe_int (fun _ _ => rfl)) pa_nil))))) pss_nil)
        (pss_cons (ps_set (i := 7) scDone.nd rfl (.inl rfl) (pe_cmpR op_eq (pe_dget hu (pe_dget hu (pv 0) pe_str (fun _ _ => rfl)) (pe_ix ix_tup (pv 6) pe_int (fun _ _ => rfl)) (fun _ _ => rfl)) pe_str (nomark _)))
        (pss_cons (ps_if (PW.pt (pw_and (pt_cmpR op_eq (pe_ix ix_tup (pv 6) pe_int (fun _ _ => rfl)) pe_str (nomark _)) (pw_and1 (pt_not (pt_val (pv 7)))))) (pss_one (ps_ret (pe_tup (pa_cons pe_bl (pa_cons (pv 3) pa_nil))))) pss_nil)
        (pss_cut (ps_if (pt_cmpR op_eq (pe_ix ix_tup (pv 6) pe_int (fun _ _ => rfl)) pe_str (nomark _)) (pss_one (ps_dput hu (pv 3) (pe_ix ix_tup (pv 6) pe_int (fun _ _ => rfl)) (pe_callTy call_int1 (by rfl) B.int bInt (pa_cons (pv 7) pa_nil)) rfl)) pss_nil)
        (pss_one (ps_set (i := 4) scDone.nd rfl (.inl rfl) (pe_op op_cat (pv 4) (pe_op op_rep (pe_lst (pa_cons (pe_ix ix_tup (pv 6) pe_int (fun _ _ => rfl)) pa_nil)) (pe_callTy call_int1 (by rfl) B.int bInt (pa_cons (pv 7) pa_nil))))))))))
      (pss_one (ps_if (pt_cmpR op_eq (pe_ix ix_tup (pv 6) pe_int (fun _ _ => rfl)) pe_str (nomark _))
        (pss_cons (ps_set (i := 8) scDone.nd rfl (.inl rfl) (pe_ifExp (PW.pt (pw_or (pt_cmpR op_in_seq (pe_ix ix_tup (pv 6) pe_int (fun _ _ => rfl)) (pv 4) (by rfl)) (pw_or1 (pt_cmpR op_eq (pe_ix ix_tup (pv 6) pe_int (fun _ _ => rfl)) (pv 1) (nomark _))))) (pe_dget2 hu (pe_dget hu (pv 0) pe_str (fun _ _ => rfl)) (pe_ix ix_tup (pv 6) pe_int (fun _ _ => rfl)) pe_dnewK ⟨rfl, rfl, rfl, rfl⟩) pe_dnewK))
        (pss_one (ps_dput hu (pv 3) (pe_ix ix_tup (pv 6) pe_int (fun _ _ => rfl)) (pe_dget2 hu (pv 8) (pe_ix ix_tup (pv 6) pe_int (fun _ _ => rfl)) (pe_un un_neg pe_int) ⟨rfl, rfl, rfl, rfl⟩) rfl)))
      (pss_one (ps_if (pt_cmpR op_eq (pe_ix ix_tup (pv 6) pe_int (fun _ _ => rfl)) pe_str (nomark _))
        (pss_one (ps_dput hu (pe_dget hu (pe_dget hu (pv 0) pe_str (fun _ _ => rfl)) (pv 1) (fun _ _ => rfl)) (pe_ix ix_tup (pv 6) pe_int (fun _ _ => rfl)) (pe_dget hu (pv 3) (pe_ix ix_tup (pv 6) pe_int (fun _ _ => rfl)) (fun _ _ => rfl)) rfl))
      (pss_one (ps_if (pt_cmpR op_eq (pe_ix ix_tup (pv 6) pe_int (fun _ _ => rfl)) pe_str (nomark _))
        (pss_one (ps_set (i := 5) scDone.nd rfl (.inl rfl) (pe_op op_add (pv 5) (pe_op op_mul (pe_ix ix_tup (pv 6) pe_int (fun _ _ => rfl)) (pe_callTy call_int1 (by rfl) B.int bInt (pa_cons (pe_cmpR op_gt (pe_dget hu (pv 3) (pe_ix ix_tup (pv 6) pe_int (fun _ _ => rfl)) (fun _ _ => rfl)) pe_int (nomark _)) pa_nil))))))
        (pss_one (ps_dput hu (pv 3) (pe_ix ix_tup (pv 6) pe_int (fun _ _ => rfl)) (pe_ifExp (pt_cmpR op_eq (pe_ix ix_tup (pv 6) pe_int (fun _ _ => rfl)) pe_str (nomark _)) (pe_ix ix_tup (pv 6) pe_int (fun _ _ => rfl)) (pe_op op_add (pe_dget hu (pv 3) (pe_ix ix_tup (pv 6) pe_int (fun _ _ => rfl)) (fun _ _ => rfl)) (pe_dget hu (pv 3) (pe_ix ix_tup (pv 6) pe_int (fun _ _ => rfl)) (fun _ _ => rfl)))) rfl)))))))))))))
    (pss_one (ps_ret (pe_tup (pa_cons pe_bl (pa_cons (pv 3) pa_nil)))))), ?_⟩
  refine q_par3 (tcons_go ?_)
  refine box_new (fun _ => rfl) (fun _ => rfl) fun bx Ha zbx ea hbx => ?_
  refine ⟨Nat.zero_le _, fun sl zsl => ⟨_, _, _, rfl, ?_⟩⟩
  have eb : Ex Ha (upd Ha sl (.lst [])) := Ex.new zsl
  have hsl : (upd Ha sl (.lst [])) sl = some (.lst []) := upd_same
  have hbx := eb _ _ hbx
  have e0 := ea.trans eb
  have zsl0 : H sl = none := fresh_back ea zsl
  generalize upd Ha sl (.lst []) = H0 at e0 hsl hbx
  dsimp only
  show tCut _ _ _ [some (.ref p), some (meV me), some (.ref pr), some (.ref bx), some (.ref sl), some (.int ((0 : Nat) : Int)), none, none, none, none] H0
  have lys : ys.length = vss.length := hst.length
  have l30 := pg.ln
  have nw0 : ∀ a, H a = none → a ∉ ownS A' xs := fun a ha z => by
    obtain ⟨o, h1, _⟩ := di.sc.own_some a z
    rw [ha] at h1
    cases h1
  have I0 : DoI labs L Dm HB H0 p A' xs me vss bx n (b, m', s') H0 0 .zero (meL me) s xs sl [] :=
    ⟨Nat.zero_le _, di.ex e0, hme, fun z hz => by cases me with
      | none => exact nomatch hz
      | some z => rw [List.mem_singleton.mp hz]; exact hme z rfl, hbx, nw0 bx zbx, hsl, nw0 sl zsl0, fun z => by
        cases me with
        | none => exact ⟨(fun h => nomatch h), fun h => Or.elim h (fun h => nomatch h) (fun h => nomatch h)⟩
        | some y => exact ⟨fun h => .inr (by rw [List.mem_singleton.mp h]), fun h => Or.elim h (fun h => nomatch h) (fun h => by cases h; exact List.mem_singleton.mpr rfl)⟩, Nat.zero_le _, But.refl _, fun a ha => .inl ha, ⟨vss.length + 1, by omega, hrun⟩⟩
  have fin : ∀ {H' : Hp} {xs' : Exs} {σ : L2.St}, σ[3]? = some (some (.ref bx)) → CoAt HB H' A' (lw s') xs' → H' bx = some (.dK m'.kv) → But (bx :: ownS A' xs) H0 H' → (∀ a ∈ ownS A' xs', a ∈ ownS A' xs ∨ H0 a = none) → tTup (tCons (tC (.bl b)) (tCons (tVar 3) tNil)) σ H' Q := fun {H' xs' σ} h3 sc' hb' b' n' =>
    ⟨.ref bx, h3, by show 2 ≤ sizeLine; decide, fun t zt => q xs' _ t bx (sc'.ex (Ex.new zt)) upd_same (Ex.new zt _ _ hb') (fun a o ha ho => Ex.new zt _ _ (b' a o (fun y => by
      rcases List.mem_cons.mp y with e | y
      · rw [e, zbx] at ho; cases ho
      · exact ha y) (e0 _ _ ho))) (fun a ha => (n' a ha).imp id (fun z => fresh_back e0 z))⟩
  refine q_cut (M := fun σ H1 => ∃ y6 y7 y8 y9 m seen s1 xs1 sl sn, σ = [some (.ref p), some (meV me), some (.ref pr), some (.ref bx), some (.ref sl), some (.int (vss.length : Int)), y6, y7, y8, y9] ∧ DoI labs L Dm HB H0 p A' xs me vss bx n (b, m', s') H1 vss.length m seen s1 xs1 sl sn) ?_ ?_
  rotate_left
  · rintro σ H1 ⟨y6, y7, y8, y9, m, seen, s1, xs1, sl, sn, rfl, I⟩
    have e := I.over rfl
    cases e
    exact fin rfl I.di.sc I.hb I.bt I.nw
  refine s_while (fun mm σ H1 => ∃ (y6 y7 y8 y9 : Option V) (pos : Nat) (m : M4) (seen : List Str) (s1 : Sc) (xs1 : Exs) (sl : Addr) (sn : List Str), σ = [some (.ref p), some (meV me), some (.ref pr), some (.ref bx), some (.ref sl), some (.int (pos : Int)), y6, y7, y8, y9] ∧ pos + mm = vss.length ∧ DoI labs L Dm HB H0 p A' xs me vss bx n (b, m', s') H1 pos m seen s1 xs1 sl sn) vss.length ⟨_, _, _, _, 0, _, _, _, _, _, _, rfl, Nat.zero_add _, I0⟩ ?_
  rintro mm σ H1 ⟨y6, y7, y8, y9, pos, m, seen, s1, xs1, sl, sn, rfl, hmm, I⟩
  clear I0 hsl zsl zsl0 hbx
  have hpl := I.pl
  have hpr1 := I.di.sc.bx _ _ hpr
  refine ⟨decide ((pos : Int) < (ys.length : Int)), et_test (ev_op (ev_var rfl) (ev_len (ev_var rfl) (sq_of hpr1)) rv_I0), fun hb H2 e2 => ?_, fun hb H2 e2 => ?_⟩
  rotate_left
  · have : pos = vss.length := by
      have z := of_decide_eq_false hb
      omega
    subst this
    exact ⟨y6, y7, y8, y9, m, seen, s1, xs1, sl, sn, rfl, I.ex e2⟩
  have hlt : pos < vss.length := by
    have z := of_decide_eq_true hb
    omega
  have I2 := I.ex e2
  clear I e2 hpr1
  refine ⟨fun σ' H' => ∃ m2, m2 < mm ∧ ∃ (y6 y7 y8 y9 : Option V) (pos : Nat) (m : M4) (seen : List Str) (s1 : Sc) (xs1 : Exs) (sl : Addr) (sn : List Str), σ' = [some (.ref p), some (meV me), some (.ref pr), some (.ref bx), some (.ref sl), some (.int (pos : Int)), y6, y7, y8, y9] ∧ pos + m2 = vss.length ∧ DoI labs L Dm HB H0 p A' xs me vss bx n (b, m', s') H' pos m seen s1 xs1 sl sn, fun σ2 H2 h => h, ?_⟩
  obtain ⟨us, hus⟩ : ∃ us, vss[pos]? = some us := ⟨_, List.getElem?_eq_getElem hlt⟩
  obtain ⟨t, ht, hT⟩ := hst.get hus
  have hin := List.mem_of_getElem? hus
  have sv := pg.st us hin
  refine ev_op (ev_var rfl) (ev_var rfl) (rv_ixL (K := K) (sq_of (I2.di.sc.bx _ _ hpr)) (atI_nat ht)) H2 (Ex.refl H2) _ fun H3 e3 => ev_op (ev_var rfl) ev_c rv_I0 H3 (Ex.refl H3) _ fun H4 e4 => ⟨.ref t, _, rfl, ?_⟩
  have e1 : ((pos : Int) + 1) = ((pos + 1 : Nat) : Int) := by omega
  have I4 := I2.ex (e3.trans e4)
  clear I2 e3 e4
  dsimp only
  rw [e1]
  show tSeq _ _ _ [some (.ref p), some (meV me), some (.ref pr), some (.ref bx), some (.ref sl), some (.int ((pos + 1 : Nat) : Int)), some (.ref t), y7, y8, y9] H4
  have hTx : ∀ {H' : Hp}, Ex HB H' → H' t = some (.tup us) := fun e => e _ _ hT
  have ix : ∀ {H' : Hp} {σ : L2.St} {j : Nat} {v : V}, Ex HB H' → σ[6]? = some (some (.ref t)) → us[j]? = some v → Ev (tOp (rIxT K) (tVar 6) (tC (.int (j : Int)))) σ H' v := fun e hσ h => ev_op (ev_var hσ) ev_c (rv_ixT (st_of (hTx e)) (atI_nat h))
  have eqT : ∀ {H' : Hp} {σ : L2.St} {z y : Str}, Ex HB H' → σ[6]? = some (some (.ref t)) → us[0]? = some (.str z) → EvT (tTest (tOp rEq (tOp (rIxT K) (tVar 6) (tC (.int 0))) (tC (.str y)))) σ H' (decide (z = y)) := fun e hσ h => et_is (et_test (ev_op (ix (j := 0) e hσ h) ev_c (rv_eq rfl))) (decide_eq_decide.mpr ⟨fun e => V.str.inj e, fun e => by rw [e]⟩)
  have inT : ∀ {H' : Hp} {σ : L2.St} {z : Str}, Ex HB H' → σ[6]? = some (some (.ref t)) → us[0]? = some (.str z) → EvT (tTest (tOp (rIn K false) (tOp (rIxT K) (tVar 6) (tC (.int 0))) (tTup (tCons (tC (.str "need")) (tCons (tC (.str "try")) tNil))))) σ H' (inV (.str z) [.str "need", .str "try"]) :=
    fun e hσ h => et_test (ev_inU (ix (j := 0) e hσ h) (eu_tup (ea_cons ev_c (ea_cons ev_c ea_nil)) (by show 2 ≤ 100000; decide)) rfl rfl)
  have nx : ∀ {H' : Hp} {d : Nat} {m2 : M4} {seen2 : List Str} {s2 : Sc} {xs2 : Exs} {sl2 : Addr} {sn2 : List Str} {y7' y8' y9' : Option V}, stepX (initS L n) me us m seen s1 = .go d m2 seen2 s2 → pos + d ≤ vss.length → CoAt HB H' A' (lw s2) xs2 → H' bx = some (.dK m2.kv) → H' sl2 = some (.lst (sn2.map V.str)) → bx ∉ ownS A' xs2 → sl2 ∉ ownS A' xs2 → (∀ q, q ∈ seen2 ↔ q ∈ sn2 ∨ me = some q) → sn2.length ≤ pos + 1 → But (bx :: ownS A' xs1) H4 H' → (∀ a ∈ ownS A' xs2, a ∈ ownS A' xs1 ∨ H4 a = none) →
      ∃ mm2, mm2 < mm ∧ ∃ (y6 y7 y8 y9 : Option V) (pos' : Nat) (m : M4) (seen : List Str) (s1 : Sc) (xs1 : Exs) (sl : Addr) (sn : List Str), [some (.ref p), some (meV me), some (.ref pr), some (.ref bx), some (.ref sl2), some (.int ((pos + d : Nat) : Int)), some (.ref t), y7', y8', y9'] = [some (.ref p), some (meV me), some (.ref pr), some (.ref bx), some (.ref sl), some (.int (pos' : Int)), y6, y7, y8, y9] ∧ pos' + mm2 = vss.length ∧ DoI labs L Dm HB H0 p A' xs me vss bx n (b, m', s') H' pos' m seen s1 xs1 sl sn := fun {H' d m2 seen2 s2 xs2 sl2 sn2 y7' y8' y9'} hx hd sc2 hb2 hs2 nb2 ns2 rel2 ls2 b2 n2 => by
    obtain ⟨I5, d1⟩ := I4.step pg hus hx hd sc2 hb2 hs2 nb2 ns2 rel2 ls2 b2 n2
    exact ⟨vss.length - (pos + d), by omega, _, _, _, _, pos + d, _, _, _, _, _, _, rfl, by omega, I5⟩
  -- the box alone changes
  have nsb : sl ≠ bx := fun e => by
    have z := I4.hs
    rw [e, I4.hb] at z
    cases z
  have boxed : ∀ {H5 : Hp} {m2 : M4}, Ex H4 H5 → ∃ H6, H6 = upd H5 bx (.dK m2.kv) ∧ CoAt HB H6 A' (lw s1) xs1 ∧ H6 bx = some (.dK m2.kv) ∧ H6 sl = some (.lst (sn.map V.str)) ∧ But (bx :: ownS A' xs1) H4 H6 := fun {H5 m2} e5 => by
    have b6 : But [bx] H4 (upd H5 bx (.dK m2.kv)) := (But.of e5).upd (by simp)
    have hBb : HB bx = none := by
      cases hh : HB bx with
      | none => rfl
      | some o =>
        have z := di.sc.bx _ _ hh
        rw [zbx] at z
        cases z
    exact ⟨_, rfl, I4.di.sc.but b6 (fun a ha z => I4.nb (by rw [← List.mem_singleton.mp z]; exact ha)) (fun a ha => by rw [List.mem_singleton.mp ha]; exact hBb), upd_same, by rw [upd_ne nsb]; exact e5 _ _ I4.hs, b6.mono fun a ha => by rw [List.mem_singleton.mp ha]; exact List.mem_cons_self⟩
  have bx4 := I4.di.sc.bx
  have h0 : ∃ z, us[0]? = some (.str z) := by
    rcases pg.kn.po us hin with pl | ov
    · cases pl <;> exact ⟨_, rfl⟩
    · cases ov <;> exact ⟨_, rfl⟩
  obtain ⟨z0, hz0⟩ := h0
  have key : (us = [.str "fail"]) ∨ (∃ md, NeedV us md) ∨ (∃ x md l, us = [.str "read", .str x, .str md, .str l] ∧ isVar (.str x) = true) ∨ (∃ l x, us = [.str "export", .str l, .str x] ∧ isVar (.str x) = true) ∨ PlainV us := by
    rcases pg.kn.po us hin with pl | ov
    · exact .inr (.inr (.inr (.inr pl)))
    · cases ov with
      | @exp l x =>
        refine .inr (.inr (.inr (.inl ⟨l, x, rfl, ?_⟩)))
        have z : isStep (.tuple (.str "export" :: [.str l, .str x])) = true := sv.step
        rw [isStep_eq sh_export, items2, it_var] at z
        exact (Bool.and_eq_true_iff.mp (Bool.and_eq_true_iff.mp z).2).2
      | @read x md l h => exact .inr (.inr (.inl ⟨x, md, l, rfl, h⟩))
      | @need md => exact .inr (.inl ⟨md, .need⟩)
      | @try_ md x h => exact .inr (.inl ⟨md, .try_ h⟩)
      | fail => exact .inl rfl
  rcases key with rfl | ⟨md, nv⟩ | ⟨x, md, l, rfl, hx⟩ | ⟨l, x, rfl, hx⟩ | pl
  · -- fail
    have es := I4.stop hus stepX_fail
    cases es
    refine q_when (b := true) (et_is (eqT bx4 rfl rfl) (decide_eq_true rfl)) (fun _ H5 e5 => ?_) (fun z => nomatch z)
    exact fin rfl (I4.di.sc.ex e5) (e5 _ _ I4.hb) (I4.bt.trans (But.of e5)) I4.nw
  · -- need, try
    have hu0 := nv.at0
    have hu1 := nv.at1
    have nz : ∀ {y : Str}, ¬ y = "try" → ¬ y = "need" → decide ((if isTryV us = true then ("try" : Str) else "need") = y) = false := fun {y} h1 h2 => decide_eq_false fun h => by
      split at h
      · exact h1 h.symm
      · exact h2 h.symm
    have hmd : md ∈ L.map (·.1) := by
      have mi := pg.kn.mi us hin
      cases nv with
      | need => exact need_in mi
      | try_ h => exact try_in mi
    obtain ⟨b2, s2, hini⟩ := I4.ini hus nv
    refine q_when (b := false) (et_is (eqT bx4 rfl hu0) (nz (by decide +kernel) (by decide +kernel))) (fun z => nomatch z) fun _ H5 e5 => ?_
    have hin2 : inV (.str (if isTryV us = true then ("try" : Str) else "need")) [.str "need", .str "try"] = true := by
      cases isTryV us <;> decide +kernel
    refine s_if (b := true) (et_is (inT (bx4.trans e5) rfl hu0) hin2) (fun _ H6 e6 => ?_) (fun z => nomatch z)
    have I6 := (I4.ex e5).ex e6
    have e46 := e5.trans e6
    refine q_cut (M := fun σ H' => σ = [some (.ref p), some (meV me), some (.ref pr), some (.ref bx), some (.ref sl), some (.int ((pos + 1 : Nat) : Int)), some (.ref t), y7, y8, y9] ∧ ∃ xs2, CoAt HB H' A' (lw s2) xs2 ∧ But (ownS A' xs1) H4 H' ∧ (∀ a ∈ ownS A' xs2, a ∈ ownS A' xs1 ∨ H4 a = none) ∧ getA s2.rs md = some b2) ?_ ?_
    · refine ix (j := 1) I6.di.sc.bx rfl hu1 H6 (Ex.refl H6) _ fun H7 e7 => ?_
      have I7 := I6.ex e7
      refine ev_dget (v := .ref A'.aR) (ev_var rfl) ev_c (I7.di.sc.bx _ _ I7.di.hp) kvS_s H7 (Ex.refl H7) _ fun H8 e8 => ?_
      have I8 := I7.ex e8
      have e48 := (e46.trans e7).trans e8
      refine ⟨A'.aR, (getA s1.rs md).map rdV, rfl, by
        have y := DGet.k (k := .inr md) I8.di.sc.rs
        unfold kvR at y
        rw [show (lw s1).rs = s1.rs from rfl, valV_mapA rdV] at y
        exact y, _, rfl, ?_⟩
      rcases init_cases hini with ⟨hg, rfl⟩ | ⟨hg, hg2⟩
      · rw [hg]
        exact ⟨rfl, xs1, I8.di.sc, But.of e48, fun a ha => .inl ha, rfl⟩
      · rw [hg]
        rw [if_pos (show (!((none : Option Bool).map rdV).isSome) = true from rfl)]
        refine ⟨.ref p, rfl, ix (j := 1) I8.di.sc.bx rfl hu1 H8 (Ex.refl H8) _ fun H9 e9 => ?_⟩
        have I9 := I8.ex e9
        exact ⟨HB, L, labs, p, Dm, A', s1, xs1, md, b2, s2, rfl, I9.di, hmd, hg, hini, fun xs2 H' sc2 bt2 n2 => ⟨rfl, xs2, sc2, (But.of (e48.trans e9)).trans bt2, fun a ha => (n2 a ha).imp id (fun z => fresh_back (e48.trans e9) z), hg2⟩⟩
    rintro σ H7 ⟨rfl, xs2, sc7, b7, n7, hg7⟩
    have nbx : ∀ {a : Addr} {o : HO}, H4 a = some o → a ∉ ownS A' xs1 → a ∉ ownS A' xs2 := fun ha hn z => by
      rcases n7 _ z with z | z
      · exact hn z
      · rw [ha] at z; cases z
    have hb7 := b7 _ _ I4.nb I4.hb
    have hs7 := b7 _ _ I4.ns I4.hs
    have nb7 := nbx I4.hb I4.nb
    have ns7 := nbx I4.hs I4.ns
    have rdy : decide (rdV b2 = .str "ready") = b2 := by
      cases b2 with
      | true => exact decide_eq_true rfl
      | false => exact decide_eq_false (fun e => absurd (V.str.inj e) (by decide +kernel))
    refine q_asg (v := .bl b2) (ev_is (ev_op (ev_dget (x := md) (v := rdV b2) (ev_dget (v := .ref A'.aR) (ev_var rfl) ev_c (sc7.bx _ _ I4.di.hp) kvS_s) (ix (j := 1) sc7.bx rfl hu1) sc7.rs (by unfold kvR; rw [show (lw s2).rs = s2.rs from rfl, valV_mapA rdV, hg7]; rfl)) ev_c (rv_eq (by cases b2 <;> rfl))) (congrArg V.bl rdy)) fun H8 e8 => ?_
    show tSeq _ _ _ [some (.ref p), some (meV me), some (.ref pr), some (.ref bx), some (.ref sl), some (.int ((pos + 1 : Nat) : Int)), some (.ref t), some (.bl b2), y8, y9] H8
    have sc8 := sc7.ex e8
    have b8 := b7.trans (But.of e8)
    have isT : decide ((if isTryV us = true then ("try" : Str) else "need") = "need") = !isTryV us := by
      cases isTryV us <;> decide +kernel
    have isT2 : decide ((if isTryV us = true then ("try" : Str) else "need") = "try") = isTryV us := by
      cases isTryV us <;> decide +kernel
    have tst : (!isTryV us && !b2) = !(b2 || isTryV us) := by cases isTryV us <;> cases b2 <;> rfl
    refine q_when (b := !(b2 || isTryV us)) (et_is (et_and (et_is (eqT sc8.bx rfl hu0) isT) fun _ => et_not (et_B (ev_var rfl))) tst) (fun hb H9 e9 => ?_) (fun hb H9 e9 => ?_)
    · have hc : (b2 || isTryV us) = false := by
        cases hh : (b2 || isTryV us) with
        | false => rfl
        | true => rw [hh] at hb; cases hb
      have es := I4.stop hus (past_halt nv hini hc)
      cases es
      exact fin rfl (sc8.ex e9) (e9 _ _ (e8 _ _ hb7)) (I4.bts ((b8.trans (But.of e9)).mono fun a ha => List.mem_cons_of_mem _ ha)) (I4.new n7)
    have hc : (b2 || isTryV us) = true := by
      cases hh : (b2 || isTryV us) with
      | true => rfl
      | false => rw [hh] at hb; cases hb
    have sc9 := sc8.ex e9
    have b9 := b8.trans (But.of e9)
    have hb9 := e9 _ _ (e8 _ _ hb7)
    have hs9 := e9 _ _ (e8 _ _ hs7)
    have i01 : ∀ {H' : Hp} {σ : L2.St}, σ[7]? = some (some (.bl b2)) → Ev (tCB (fun xs H Q => (∃ i, xs = [V.int i] ∧ Q (.int i) H) ∨ ∃ k, xs = [V.bl k] ∧ Q (.int (if k = true then 1 else 0)) H) (tCons (tVar 7) tNil)) σ H' (.int (b01 b2)) := fun h => ev_cb (ea_cons (ev_var h) ea_nil) (fun H6 e6 Q q => .inr ⟨b2, rfl, q H6 (Ex.refl H6)⟩)
    refine q_cut (M := fun σ H' => σ = [some (.ref p), some (meV me), some (.ref pr), some (.ref bx), some (.ref sl), some (.int ((pos + 1 : Nat) : Int)), some (.ref t), some (.bl b2), y8, y9] ∧ CoAt HB H' A' (lw s2) xs2 ∧ H' bx = some (.dK (memoO us (b01 b2) m).kv) ∧ H' sl = some (.lst (sn.map V.str)) ∧ But (bx :: ownS A' xs1) H4 H') ?_ ?_
    · refine s_when (b := isTryV us) (et_is (eqT sc9.bx rfl hu0) isT2) (fun ht H10 e10 => ?_) (fun ht H10 e10 => ?_)
      · refine i01 rfl H10 (Ex.refl H10) _ fun H11 e11 => ⟨.ref bx, rfl, ?_⟩
        have e911 := e10.trans e11
        cases nv with
        | need => exact absurd ht (by show ¬ decide (V.str "need" = V.str "try") = true; decide +kernel)
        | @try_ _ x hx =>
          refine ix (j := 2) (sc9.ex e911).bx rfl rfl H11 (Ex.refl H11) _ fun H12 e12 => ?_
          have e912 := e911.trans e12
          refine ⟨bx, _, rfl, put_varB (e912 _ _ hb9) hx _, ?_⟩
          have bb : But [bx] H9 (upd H12 bx (.dK (m.set x (b01 b2)).kv)) := (But.of e912).upd (by simp)
          have hBb : HB bx = none := by
            cases hh : HB bx with
            | none => rfl
            | some o => have z := di.sc.bx _ _ hh; rw [zbx] at z; cases z
          refine ⟨rfl, sc9.but bb (fun a ha z => nb7 (by rw [← List.mem_singleton.mp z]; exact ha)) (fun a ha => by rw [List.mem_singleton.mp ha]; exact hBb), ?_, by rw [upd_ne nsb]; exact e912 _ _ hs9, (b9.mono fun a ha => List.mem_cons_of_mem _ ha).trans (bb.mono fun a ha => by rw [List.mem_singleton.mp ha]; exact List.mem_cons_self)⟩
          rw [upd_same]
          unfold memoO
          rw [given_try]
      · have gn : givenX us = none := by
          cases nv with
          | need => rfl
          | try_ h => exact absurd ht (by show ¬ decide (V.str "try" = V.str "try") = false; decide +kernel)
        refine ⟨rfl, sc9.ex e10, ?_, e10 _ _ hs9, (b9.trans (But.of e10)).mono fun a ha => List.mem_cons_of_mem _ ha⟩
        unfold memoO
        rw [gn]
        exact e10 _ _ hb9
    rintro σ H10 ⟨rfl, sc10, hb10, hs10, b10⟩
    have ls := I4.ls
    refine ⟨.ref sl, rfl, ?_⟩
    refine ix (j := 1) sc10.bx rfl hu1 H10 (Ex.refl H10) _ fun H11 e11 => ⟨by show 1 ≤ sizeLine; decide, fun l1 zl1 => ?_⟩
    have e12 : Ex H11 (upd H11 l1 (.lst [.str md])) := Ex.new zl1
    have hl1 : (upd H11 l1 (.lst [.str md])) l1 = some (.lst [.str md]) := upd_same
    generalize upd H11 l1 (.lst [.str md]) = H12 at e12 hl1
    refine i01 rfl H12 (Ex.refl H12) _ fun H13 e13 => ?_
    have rep : (List.replicate (b01 b2).toNat [V.str md]).flatten = (if b2 = true then [md] else []).map V.str := by cases b2 <;> rfl
    refine ⟨l1, b01 b2, [.str md], rfl, rfl, e13 _ _ hl1, by cases b2 <;> decide, by cases b2 <;> decide, by show 1 * (b01 b2).toNat ≤ sizeLine; cases b2 <;> decide, fun l2 zl2 => ?_⟩
    rw [rep]
    have e14 : Ex H13 (upd H13 l2 (.lst ((if b2 = true then [md] else []).map V.str))) := Ex.new zl2
    have hl2 : (upd H13 l2 (.lst ((if b2 = true then [md] else []).map V.str))) l2 = some (.lst ((if b2 = true then [md] else []).map V.str)) := upd_same
    generalize upd H13 l2 (.lst ((if b2 = true then [md] else []).map V.str)) = H14 at e14 hl2
    have e1014 := (e11.trans e12).trans (e13.trans e14)
    have lif : ((if b2 = true then [md] else []) : List Str).length ≤ 1 := by
      cases b2 with
      | true => exact Nat.le_refl 1
      | false => exact Nat.zero_le 1
    refine ⟨sl, l2, _, _, rfl, rfl, e1014 _ _ hs10, hl2, by rw [List.length_map, List.length_map, sizeLine_eq]; omega, fun sl2 zsl2 => ?_⟩
    rw [← List.map_append]
    have e15 := Ex.new (o := .lst ((sn ++ if b2 = true then [md] else []).map V.str)) zsl2
    have e1015 := e1014.trans e15
    have ns2 : sl2 ∉ ownS A' xs2 := fun z => by
      obtain ⟨o, h1, _⟩ := (sc10.ex e1014).own_some sl2 z
      rw [zsl2] at h1
      cases h1
    refine nx (past_go nv hini hc) (by omega) (sc10.ex e1015) (e1015 _ _ hb10) upd_same nb7 ns2 (fun z => ?_) (by rw [List.length_append]; omega) (b10.trans (But.of e1015)) n7
    cases b2 with
    | true =>
      rw [if_pos rfl, if_pos rfl, List.mem_append, List.mem_append, I4.rel z]
      constructor
      · rintro ((h | h) | h)
        · exact .inl (.inl h)
        · exact .inr h
        · exact .inl (.inr h)
      · rintro ((h | h) | h)
        · exact .inl (.inl h)
        · exact .inr h
        · exact .inl (.inr h)
    | false =>
      rw [if_neg (by decide), if_neg (by decide), List.append_nil]
      exact I4.rel z
  · -- read
    refine q_when (b := false) (et_is (eqT bx4 rfl rfl) (decide_eq_false (by decide +kernel))) (fun z => nomatch z) fun _ H5 e5 => ?_
    refine s_if (b := false) (et_is (inT (bx4.trans e5) rfl rfl) (by decide +kernel)) (fun z => nomatch z) fun _ H6 e6 => ?_
    refine s_if (b := true) (et_is (eqT (bx4.trans (e5.trans e6)) rfl rfl) (decide_eq_true rfl)) (fun _ H7 e7 => ?_) (fun z => nomatch z)
    have I7 := ((I4.ex e5).ex e6).ex e7
    have e47 := (e5.trans e6).trans e7
    have kn : ∀ (Q3 : VK), (∀ a e H', Ex H7 H' → H' a = some (.dK (kvI e)) → (getA e l).getD (-1) = readV s1 seen md l → Q3 (.ref a) H') → tIf (tOr (tTest (tOp (rIn K false) (tOp (rIxT K) (tVar 6) (tC (.int 2))) (tVar 4))) (tTest (tOp rEq (tOp (rIxT K) (tVar 6) (tC (.int 2))) (tVar 1)))) (tDGet2 (tDGet (tVar 0) (tC (.str "exports"))) (tOp (rIxT K) (tVar 6) (tC (.int 2))) tDNewK) tDNewK [some (.ref p), some (meV me), some (.ref pr), some (.ref bx), some (.ref sl), some (.int ((pos + 1 : Nat) : Int)), some (.ref t), y7, y8, y9] H7 Q3 := fun Q3 q3 => by
      have tst : EvT (tOr (tTest (tOp (rIn K false) (tOp (rIxT K) (tVar 6) (tC (.int 2))) (tVar 4))) (tTest (tOp rEq (tOp (rIxT K) (tVar 6) (tC (.int 2))) (tVar 1)))) [some (.ref p), some (meV me), some (.ref pr), some (.ref bx), some (.ref sl), some (.int ((pos + 1 : Nat) : Int)), some (.ref t), y7, y8, y9] H7 (decide (md ∈ seen)) := by
        refine et_is (et_or (et_test (ev_op (ix (j := 2) I7.di.sc.bx rfl rfl) (ev_var rfl) (rv_inL (sq_of I7.hs) rfl (by rw [List.all_map]; exact List.all_eq_true.mpr fun _ _ => rfl)))) fun _ => et_test (ev_op (ix (j := 2) I7.di.sc.bx rfl rfl) (ev_var rfl) (rv_eq (by cases me <;> rfl)))) ?_
        show (inV (.str md) (sn.map V.str) || decide (V.str md = meV me)) = _
        rw [strs_in, Bool.eq_iff_iff, Bool.or_eq_true, decide_eq_true_eq, decide_eq_true_eq, decide_eq_true_eq, I7.rel md]
        refine or_congr Iff.rfl ?_
        cases me with
        | none => exact ⟨(fun h => nomatch h), (fun h => nomatch h)⟩
        | some z => exact ⟨fun h => congrArg some (V.str.inj h).symm, fun h => by rw [Option.some.inj h]; rfl⟩
      refine tst H7 (Ex.refl H7) _ fun H8 e8 => ?_
      by_cases hs : md ∈ seen
      · rw [if_pos (decide_eq_true hs)]
        have I8 := I7.ex e8
        obtain ⟨ae, hae⟩ : ∃ ae, getA xs1 md = some ae := getA_some (by
          have hz := I8.sx md hs
          have hz : md ∈ keysA (lw s1).ex := hz
          rw [← I8.di.sc.exs] at hz
          unfold keysA exs0 at hz
          rw [List.map_map] at hz
          exact hz)
        obtain ⟨a, e⟩ := ae
        refine ev_dget (v := .ref A'.aE) (ev_var rfl) ev_c (I8.di.sc.bx _ _ I8.di.hp) kvS_e H8 (Ex.refl H8) _ fun H9 e9 => ?_
        have I9 := I8.ex e9
        refine ⟨A'.aE, rfl, .inl ⟨_, .inl I9.di.sc.exd⟩, ?_⟩
        refine ix (j := 2) I9.di.sc.bx rfl rfl H9 (Ex.refl H9) _ fun H10 e10 => ?_
        have I10 := I9.ex e10
        intro dn zdn
        have e11 : Ex H10 (upd H10 dn (.dK [])) := Ex.new zdn
        refine ⟨some (.ref a), by
          have y := DGet.k (k := .inr md) (e11 _ _ I10.di.sc.exd)
          unfold kvE at y
          rw [valV_mapA (fun r : Addr × Ints => V.ref r.1), hae] at y
          exact y, ?_⟩
        have ge : getA s1.ex md = some e := by
          have z : getA (lw s1).ex md = some e := by
            rw [← I10.di.sc.exs]
            unfold exs0
            rw [getA_map (fun r : Addr × Ints => r.2), hae]
            rfl
          exact z
        refine q3 a e _ (((e8.trans e9).trans e10).trans e11) (e11 _ _ (I10.di.sc.ini _ (getA_mem hae))) ?_
        unfold readV
        rw [if_pos hs, ge]
        rfl
      · rw [if_neg (by rw [decide_eq_false hs]; decide)]
        intro dn zdn
        refine q3 dn [] _ (e8.trans (Ex.new zdn)) upd_same ?_
        unfold readV
        rw [if_neg hs]
        rfl
    refine q_asgAny (kn _ fun a e H8 e8 ha hval => ?_)
    show sDPut _ _ _ _ [some (.ref p), some (meV me), some (.ref pr), some (.ref bx), some (.ref sl), some (.int ((pos + 1 : Nat) : Int)), some (.ref t), y7, some (.ref a), y9] H8
    have I8 := I7.ex e8
    refine ⟨.ref a, rfl, a, rfl, .inl ⟨_, .inl ha⟩, ?_⟩
    refine ix (j := 3) I8.di.sc.bx rfl rfl H8 (Ex.refl H8) _ fun H9 e9 => ⟨1, rfl, (getA e l).map V.int, by
      have y := DGet.k (k := .inr l) (e9 _ _ ha)
      unfold kvI at y
      rw [valV_mapA V.int] at y
      exact y, ?_⟩
    have val : ((getA e l).map V.int).getD (.int (-1)) = .int (readV s1 seen md l) := by
      rw [← hval]
      cases getA e l <;> rfl
    rw [val]
    refine ⟨.ref bx, rfl, ix (j := 1) (I8.ex e9).di.sc.bx rfl rfl H9 (Ex.refl H9) _ fun H10 e10 => ?_⟩
    have e410 := ((e47.trans e8).trans e9).trans e10
    obtain ⟨H11, eH, sc11, hb11, hs11, b11⟩ := boxed (m2 := m.set x (readV s1 seen md l)) e410
    refine ⟨bx, _, rfl, put_varB (e410 _ _ I4.hb) hx _, ?_⟩
    rw [← eH]
    exact nx stepX_read (by omega) sc11 hb11 hs11 I4.nb I4.ns I4.rel (by have := I4.ls; omega) b11 (fun a ha => .inl ha)
  · -- export
    obtain ⟨z, rfl⟩ : ∃ z, me = some z := by
      cases me with
      | some z => exact ⟨z, rfl⟩
      | none => exact absurd rfl (pg.ne rfl _ hin l x)
    refine q_when (b := false) (et_is (eqT bx4 rfl rfl) (decide_eq_false (by decide +kernel))) (fun z => nomatch z) fun _ H5 e5 => ?_
    refine s_if (b := false) (et_is (inT (bx4.trans e5) rfl rfl) (by decide +kernel)) (fun z => nomatch z) fun _ H6 e6 => ?_
    refine s_if (b := false) (et_is (eqT (bx4.trans (e5.trans e6)) rfl rfl) (decide_eq_false (by decide +kernel))) (fun z => nomatch z) (fun _ H7 e7 => ?_)
    refine s_if (b := true) (et_is (eqT (bx4.trans ((e5.trans e6).trans e7)) rfl rfl) (decide_eq_true rfl)) (fun _ H8 e8 => ?_) (fun z => nomatch z)
    have e48 := ((e5.trans e6).trans e7).trans e8
    have I8 := I4.ex e48
    refine ev_dget (ev_var rfl) (ix (j := 2) I8.di.sc.bx rfl rfl) I8.hb (m4_val m hx) H8 (Ex.refl H8) _ fun H9 e9 => ?_
    have I9 := I8.ex e9
    obtain ⟨ae, hae⟩ : ∃ ae, getA xs1 z = some ae := getA_some (by
      have hz := I9.mx z rfl
      have hz : z ∈ keysA (lw s1).ex := hz
      rw [← I9.di.sc.exs] at hz
      unfold keysA exs0 at hz
      rw [List.map_map] at hz
      exact hz)
    obtain ⟨a, e⟩ := ae
    refine ev_dget (x := z) (v := .ref a) (ev_dget (v := .ref A'.aE) (ev_var rfl) ev_c (I9.di.sc.bx _ _ I9.di.hp) kvS_e) (ev_var rfl) I9.di.sc.exd (by unfold kvE; rw [valV_mapA (fun r : Addr × Ints => V.ref r.1), hae]; rfl) H9 (Ex.refl H9) _ fun H10 e10 => ?_
    refine ix (j := 1) (I9.ex e10).di.sc.bx rfl rfl H10 (Ex.refl H10) _ fun H11 e11 => ?_
    have e411 := ((e48.trans e9).trans e10).trans e11
    have I11 := I4.ex e411
    have hi : H11 a = some (.dK (kvI e)) := I11.di.sc.ini _ (getA_mem hae)
    have le : e.length ≤ 2000 := (I11.di.lu.few I11.di.wf I11.di.nm).lb (z, e) (getA_mem (by
      have y : getA (lw s1).ex z = some e := by
        rw [← I11.di.sc.exs]
        unfold exs0
        rw [getA_map (fun r : Addr × Ints => r.2), hae]
        rfl
      exact y))
    refine ⟨a, upd H11 a (.dK (kvI (putA e l (m.get x)))), rfl, .inl ⟨kvI e, .inr l, hi, rfl, sz_lt (by show (List.map _ e).length < 100000; rw [List.length_map]; omega), by unfold kvI; rw [putK_map V.int]⟩, ?_⟩
    obtain ⟨sc12, eo⟩ := I11.di.sc.export I11.di.wf.lw (l := l) (i := m.get x) hae
    have io : a ∈ ownS A' xs1 := in_I (getA_mem hae)
    have abx : bx ≠ a := fun e => I4.nb (by rw [e]; exact io)
    have asl : sl ≠ a := fun e => I4.ns (by rw [e]; exact io)
    refine nx stepX_exp (by omega) sc12 (by rw [upd_ne abx]; exact I11.hb) (by rw [upd_ne asl]; exact I11.hs) (by rw [eo]; exact I4.nb) (by rw [eo]; exact I4.ns) I4.rel (by have := I4.ls; omega) (((But.of e411).upd io).mono fun c hc => List.mem_cons_of_mem _ hc) (fun c hc => .inl (by rw [eo] at hc; exact hc))
  · -- plain
    have hz : us[0]? = some (.str "set") ∨ us[0]? = some (.str "add") ∨ us[0]? = some (.str "skip") := by
      cases pl with
      | set => exact .inl rfl
      | add => exact .inr (.inl rfl)
      | skip => exact .inr (.inr rfl)
    obtain ⟨z, hz0, n1, n2, n3, n4⟩ : ∃ z : Str, us[0]? = some (.str z) ∧ ¬ z = "fail" ∧ inV (.str z) [.str "need", .str "try"] = false ∧ ¬ z = "read" ∧ ¬ z = "export" := by
      rcases hz with h | h | h
      · exact ⟨_, h, by decide +kernel, by decide +kernel, by decide +kernel, by decide +kernel⟩
      · exact ⟨_, h, by decide +kernel, by decide +kernel, by decide +kernel, by decide +kernel⟩
      · exact ⟨_, h, by decide +kernel, by decide +kernel, by decide +kernel, by decide +kernel⟩
    refine q_when (b := false) (et_is (eqT bx4 rfl hz0) (decide_eq_false n1)) (fun z => nomatch z) fun _ H5 e5 => ?_
    refine s_if (b := false) (et_is (inT (bx4.trans e5) rfl hz0) n2) (fun z => nomatch z) fun _ H6 e6 => ?_
    refine s_if (b := false) (et_is (eqT (bx4.trans (e5.trans e6)) rfl hz0) (decide_eq_false n3)) (fun z => nomatch z) (fun _ H7 e7 => ?_)
    refine s_if (b := false) (et_is (eqT (bx4.trans ((e5.trans e6).trans e7)) rfl hz0) (decide_eq_false n4)) (fun z => nomatch z) (fun _ H8 e8 => ?_)
    have e48 := ((e5.trans e6).trans e7).trans e8
    have I8 := I4.ex e48
    have ft := pg.ft pos us m hus
    cases pl with
    | @set x i hx =>
      refine s_if (b := false) (et_is (eqT I8.di.sc.bx rfl rfl) (decide_eq_false (by decide +kernel))) (fun z => nomatch z) (fun _ H9 e9 => ?_)
      have I9 := I8.ex e9
      refine ev_if (b := true) (et_is (eqT I9.di.sc.bx rfl rfl) (decide_eq_true rfl)) (fun _ => ix (j := 2) I9.di.sc.bx rfl rfl) (fun z => nomatch z) H9 (Ex.refl H9) _ fun H10 e10 => ⟨.ref bx, rfl, ?_⟩
      refine ix (j := 1) (I9.ex e10).di.sc.bx rfl rfl H10 (Ex.refl H10) _ fun H11 e11 => ?_
      have e411 := ((e48.trans e9).trans e10).trans e11
      obtain ⟨H12, eH, sc12, hb12, hs12, b12⟩ := boxed (m2 := m.set x i) e411
      refine ⟨bx, _, rfl, put_varB (e411 _ _ I4.hb) hx _, ?_⟩
      rw [← eH]
      have sx := stepX_plain (ini := initS L n) (me := me) (m := m) (seen := seen) (s := s1) (.set (i := i) hx)
      rw [goes_eq, memo_eq, if_neg (fun z => ne_st z.1), if_pos rfl] at sx
      exact nx sx (by omega) sc12 hb12 hs12 I4.nb I4.ns I4.rel (by have := I4.ls; omega) b12 (fun a ha => .inl ha)
    | @add x y hx hy =>
      refine s_if (b := false) (et_is (eqT I8.di.sc.bx rfl rfl) (decide_eq_false (by decide +kernel))) (fun z => nomatch z) (fun _ H9 e9 => ?_)
      have I9 := I8.ex e9
      refine ev_if (b := false) (et_is (eqT I9.di.sc.bx rfl rfl) (decide_eq_false (by decide +kernel))) (fun z => nomatch z) (fun _ => ev_op (ev_dget (ev_var rfl) (ix (j := 1) I9.di.sc.bx rfl rfl) I9.hb (m4_val m hx)) (ev_dget (ev_var rfl) (ix (j := 2) I9.di.sc.bx rfl rfl) I9.hb (m4_val m hy)) rv_I0) H9 (Ex.refl H9) _ fun H10 e10 => ⟨.ref bx, rfl, ?_⟩
      refine ix (j := 1) (I9.ex e10).di.sc.bx rfl rfl H10 (Ex.refl H10) _ fun H11 e11 => ?_
      have e411 := ((e48.trans e9).trans e10).trans e11
      obtain ⟨H12, eH, sc12, hb12, hs12, b12⟩ := boxed (m2 := m.set x (m.get x + m.get y)) e411
      refine ⟨bx, _, rfl, put_varB (e411 _ _ I4.hb) hx _, ?_⟩
      rw [← eH]
      have sx := stepX_plain (ini := initS L n) (me := me) (m := m) (seen := seen) (s := s1) (.add hx hy)
      rw [memo_add] at sx
      exact nx sx (by omega) sc12 hb12 hs12 I4.nb I4.ns I4.rel (by have := I4.ls; omega) b12 (fun a ha => .inl ha)
    | @skip x i hx hi =>
      refine s_if (b := true) (et_is (eqT I8.di.sc.bx rfl rfl) (decide_eq_true rfl)) (fun _ H9 e9 => ?_) (fun z => nomatch z)
      have I9 := I8.ex e9
      have ev1 : Ev (tOp (rI0 fun i j => .int (i + j)) (tVar 5) (tOp (rI CMul fun i j => .int (i * j)) (tOp (rIxT K) (tVar 6) (tC (.int 2))) (tCB (fun xs H Q => (∃ i, xs = [V.int i] ∧ Q (.int i) H) ∨ ∃ k, xs = [V.bl k] ∧ Q (.int (if k = true then 1 else 0)) H) (tCons (tOp (rI0 fun i j => .bl (decide (j < i))) (tDGet (tVar 3) (tOp (rIxT K) (tVar 6) (tC (.int 1)))) (tC (.int 0))) tNil)))) [some (.ref p), some (meV me), some (.ref pr), some (.ref bx), some (.ref sl), some (.int ((pos + 1 : Nat) : Int)), some (.ref t), y7, y8, y9] H9 (.int ((pos + goes [.str "skip", .str x, .int i] m : Nat) : Int)) := by
        refine ev_is (ev_op (ev_var rfl) (ev_op (ix (j := 2) I9.di.sc.bx rfl rfl) (ev_cb (ea_cons (ev_op (ev_dget (ev_var rfl) (ix (j := 1) I9.di.sc.bx rfl rfl) I9.hb (m4_val m hx)) ev_c rv_I0) ea_nil) (z := .int (if decide (0 < m.get x) = true then 1 else 0)) (fun H6 e6 Q q => .inr ⟨_, rfl, q H6 (Ex.refl H6)⟩)) (rv_I (.inr (by split <;> decide)))) rv_I0) ?_
        congr 1
        rw [goes_eq]
        by_cases hp : 0 < m.get x
        · rw [if_pos (decide_eq_true hp), if_pos ⟨rfl, hp⟩, Int.mul_one]
          omega
        · rw [if_neg (by rw [decide_eq_false hp]; decide), if_neg (fun z => hp z.2), Int.mul_zero]
          omega
      refine ev1 H9 (Ex.refl H9) _ fun H10 e10 => ?_
      have I10 := I9.ex e10
      have e410 := (e48.trans e9).trans e10
      have sx := stepX_plain (ini := initS L n) (me := me) (m := m) (seen := seen) (s := s1) (.skip hx hi)
      rw [memo_eq, if_neg ne_ss] at sx
      exact nx sx ft I10.di.sc I10.hb I10.hs I4.nb I4.ns I4.rel (by have := I4.ls; omega) (But.of e410) (fun a ha => .inl ha)
end
end Cr
/-! the law's own evaluator: _law_started, and both at any depth -/
namespace Cr
open PySem PySem.Spec PyProof.Rows L2 Evl
section
variable {P : Program} {w : World} {K : PySem.W.Frag} {mg : Str → Option Value} {base : Heap}
theorem ok_started {f : Addr} {fd : FuncData} {k n : Nat} (F : Fun K "_law_started" "_law_started" sStarted f fd) (B : Blt mg) (h1 : HasO P w K mg base k "_law_done" pDone (spDone n)) : FnOk P w K mg base CX0 (k + 1) f fd ["_law_scene", "_law_module"] (spStarted (n + 1)) := by
  obtain ⟨f1, d1, G1, b1, k1, g1⟩ := h1.ex
  refine F.ok scStarted (fun vs H Q E h => by obtain ⟨_, _, _, _, _, _, _, _, _, _, _, rfl, _⟩ := h; rfl) (fun cdv A outer s H vs Q E hr h => ?_)
  obtain ⟨HB, L, labs, p, Dm, A', s, xs, md, b, s', rfl, di, hmd, hg, hini, q⟩ := h
  have hu := hu_of hr
  refine ⟨_, pss_cons (ps_dput hu (pe_dget hu (pv 0) pe_str (fun _ _ => rfl)) (pv 1) pe_dnewK rfl)
    (pss_cons (ps_set (i := 2) scStarted.nd rfl (.inl rfl) (pe_ix ix_tup (pe_call (E := E0) G1 hr (by rfl) g1 k1 b1 .nil pass0 (pa_cons (pv 0) (pa_cons (pv 1) (pa_cons (pe_dget hu (pe_dget hu (pv 0) pe_str (fun _ _ => rfl)) (pv 1) (fun _ _ => rfl)) pa_nil)))) pe_int (fun _ _ => rfl)))
    (pss_cons (ps_dput hu (pe_dget hu (pv 0) pe_str (fun _ _ => rfl)) (pv 1) (pe_ix ix_list (pe_lst (pa_cons pe_str (pa_cons pe_str pa_nil))) (pe_callTy call_int1 (by rfl) B.int bInt (pa_cons (pv 2) pa_nil)) (fun _ _ => rfl)) rfl)
    (pss_cut (ps_if (pt_not (pt_val (pv 2))) (pss_one (ps_dput hu (pe_dget hu (pv 0) pe_str (fun _ _ => rfl)) (pv 1) pe_dnewK rfl)) pss_nil)
    (pss_one (ps_expr (pe_bm PySem.F.plainAttrs_list PySem.F.slot_list_append PySem.F.type_list_append mt_append (pe_dget hu (pv 0) pe_str (fun _ _ => rfl)) (pa_cons (pv 1) pa_nil))))))), ?_⟩
  rw [init_succ] at hini
  have hop : md ∉ s.op := fun h => by rw [if_pos h] at hini; cases hini
  rw [if_neg hop, hg] at hini
  dsimp only at hini
  have LU := di.lu
  have fw := LU.few di.wf di.nm
  obtain ⟨e, m2, s2, hx, hb, hs'⟩ : ∃ e m2 s2, execS (initS L n) (some md) (vsP (progL L md)) ((progL L md).length + 1) 0 .zero [md] ⟨s.op ++ [md], s.rs, putA s.ex md []⟩ = .ok (e, m2, s2) ∧ b = e ∧ s' = ⟨s2.op.dropLast, putA s2.rs md e, if e then s2.ex else putA s2.ex md []⟩ := by
    cases hx : execS (initS L n) (some md) (vsP (progL L md)) ((progL L md).length + 1) 0 .zero [md] ⟨s.op ++ [md], s.rs, putA s.ex md []⟩ with
    | error c => rw [hx] at hini; cases hini
    | ok r =>
      rw [hx] at hini
      cases hini
      exact ⟨_, _, _, rfl, rfl, rfl⟩
  subst hb
  clear hini
  have wf := di.wf
  have wfB := wf_begin (md := md) wf
  have nmB := begin_nm di.nm hmd hop
  have hmk : ∀ q, (some md : Option Str) = some q → q ∈ keysA (putA s.ex md ([] : Ints)) := fun q hq => by cases hq; exact putA_mem.mpr (.inl rfl)
  obtain ⟨gr, w2⟩ := exec_gr (init_good LU.n.r n) (LU.n.kn md).po _ _ wfB hmk (fun q hq => by rw [List.mem_singleton.mp hq]; exact hmk md rfl) hx
  have nm2 := exec_nm (init_good LU.n.r n) (init_nm LU.n n) (LU.n.kn md) _ _ wfB nmB hmk (fun q hq => by rw [List.mem_singleton.mp hq]; exact hmk md rfl) hx
  have ko := exec_ko (init_good LU.n.r n) (init_ko LU.n.r n) (LU.n.kn md).po _ _ wfB hmk (fun q hq => by rw [List.mem_singleton.mp hq]; exact hmk md rfl) hx
  have f2 := LU.few w2 nm2
  have hnk : md ∉ keysA s2.rs := fun z => by
    have y := ko md (List.mem_append_right _ (List.mem_singleton.mpr rfl)) z
    have y := getA_key.mpr y
    rw [hg] at y
    cases y
  have kp : keysA (putA s2.rs md b) = keysA s2.rs ++ [md] := by
    unfold keysA at hnk ⊢
    rw [putA_keys, if_neg hnk]
  -- its exports, none yet
  intro a za
  have ea : Ex H (upd H a (.dK [])) := Ex.new za
  have na : a ∉ ownS A' xs := fun z => by
    obtain ⟨o, h1, _⟩ := di.sc.own_some a z
    rw [za] at h1
    cases h1
  obtain ⟨sc2, in2⟩ := (di.sc.ex ea).newE wf.lw (md := md) upd_same na (fresh_back di.sc.bx za)
  refine ev_dget (v := .ref A'.aE) (ev_var rfl) ev_c (ea _ _ (di.sc.bx _ _ di.hp)) kvS_e _ (Ex.refl _) _ fun H1 e1 => ⟨.str md, rfl, A'.aE, _, rfl, .inl ⟨kvE xs, .inr md, e1 _ _ (ea _ _ di.sc.exd), rfl, sz_lt (by
      have := fw.ex
      have z : exs0 xs = s.ex := di.sc.exs
      rw [← z] at this
      unfold exs0 at this
      rw [List.length_map] at this
      show (List.map _ xs).length < 100000
      rw [List.length_map]
      omega), rfl⟩, ?_⟩
  have eE : (HO.dK (putK (kvE xs) (.inr md) (.ref a))) = .dK (kvE (putA xs md (a, []))) := by
    unfold kvE
    rw [putK_map (fun r : Addr × Ints => V.ref r.1) xs md (a, [])]
  rw [eE]
  obtain ⟨sc2, in2⟩ := (di.sc.ex (ea.trans e1)).newE wf.lw (md := md) (e1 _ _ upd_same) na (fresh_back di.sc.bx za)
  have b2 : But (ownS A' xs) H (upd H1 A'.aE (.dK (kvE (putA xs md (a, []))))) := (But.of (ea.trans e1)).upd in_E
  have o2 : ∀ c ∈ ownS A' (putA xs md (a, [])), c ∈ ownS A' xs ∨ H c = none := fun c hc => (in2 c hc).symm.imp id (fun z => by rw [z]; exact za)
  generalize upd H1 A'.aE (.dK (kvE (putA xs md (a, [])))) = H2 at sc2 b2 ⊢
  have sc2 : CoAt HB H2 A' (lw ⟨s.op ++ [md], s.rs, putA s.ex md []⟩) (putA xs md (a, [])) := sc2
  -- it is run
  have hkm : ∃ v, valV (Classical.choose (dt_dct di.dm)) (.inr md) = some v ∧ Dt HB v (progD (progL L md)) := lkv_at (Classical.choose_spec (dt_dct di.dm)).2 hmd
  obtain ⟨v, hv, dv⟩ := hkm
  have hDm := (Classical.choose_spec (dt_dct di.dm)).1
  generalize Classical.choose (dt_dct di.dm) = kvm at hv hDm
  obtain ⟨pr, ys, rfl, hpr, hys⟩ := steps_prog (LU.n.r.pv md) dv
  have lv := vsP_len (progL L md)
  dsimp only
  refine q_asgAny ?_
  refine ⟨.ref p, rfl, .str md, rfl, ?_⟩
  refine ev_dget (v := .ref pr) (ev_dget (v := .ref Dm) (ev_var rfl) ev_c (sc2.bx _ _ di.hp) kvS_m) (ev_var rfl) (sc2.bx _ _ hDm) hv H2 (Ex.refl H2) _ fun H3 e3 => ?_
  refine ⟨HB, L, labs, p, Dm, A', ⟨s.op ++ [md], s.rs, putA s.ex md []⟩, putA xs md (a, []), some md, pr, ys, vsP (progL L md), b, m2, s2, rfl, ⟨di.hp, di.dm, LU, sc2.ex e3, wfB, nmB⟩, hpr, hys, pg_of LU md, hmk, by rw [lv]; exact hx, fun xs3 H4 t bx sc4 ht hbx b4 n4 => ?_⟩
  refine ⟨t, _, 0, .bl b, rfl, rfl, st_of ht, rfl, ?_⟩
  show tSeq _ _ _ [some (.ref p), some (.str md), some (.bl b)] H4
  have b24 : But (ownS A' xs) H H4 := btO (b2.trans (But.of e3)) b4 o2
  have n24 : ∀ c ∈ ownS A' xs3, c ∈ ownS A' xs ∨ H c = none := fun c hc => by
    rcases n4 c hc with z | z
    · exact o2 c z
    · exact noO (b2.trans (But.of e3)) z
  -- the state
  have ev1 : Ev (tOp (rIxL K) (tLst (tCons (tC (.str "failed")) (tCons (tC (.str "ready")) tNil))) (tCB (fun xs H Q => (∃ i, xs = [V.int i] ∧ Q (.int i) H) ∨ ∃ k, xs = [V.bl k] ∧ Q (.int (if k = true then 1 else 0)) H) (tCons (tVar 2) tNil))) [some (.ref p), some (.str md), some (.bl b)] H4 (rdV b) := by
    refine ev_opL1 (y := .int (b01 b)) (el_lst (ea_cons ev_c (ea_cons ev_c ea_nil)) (by show 2 ≤ 100000; decide)) (fun H1 _ => ev_cb (ea_cons (ev_var rfl) ea_nil) (fun H6 e6 Q q => .inr ⟨b, rfl, q H6 (Ex.refl H6)⟩)) fun p H1 h _ => rv_ixL (sq_of h) ?_
    cases b <;> rfl
  refine ev1 H4 (Ex.refl H4) _ fun H5 e5 => ?_
  refine ev_dget (v := .ref A'.aR) (ev_var rfl) ev_c ((sc4.ex e5).bx _ _ di.hp) kvS_s H5 (Ex.refl H5) _ fun H6 e6 => ⟨.str md, rfl, A'.aR, _, rfl, .inl ⟨kvR s2.rs, .inr md, ((sc4.ex e5).ex e6).rs, rfl, sz_lt (by
      have := f2.rs
      unfold kvR
      rw [List.length_map]
      omega), rfl⟩, ?_⟩
  have eR : (HO.dK (putK (kvR s2.rs) (.inr md) (rdV b))) = .dK (kvR (putA s2.rs md b)) := by
    unfold kvR
    exact congrArg HO.dK (putK_map rdV s2.rs md b)
  rw [eR]
  have sc7 := ((sc4.ex e5).ex e6).setR (putA s2.rs md b)
  have b7 : But (ownS A' xs) H (upd H6 A'.aR (.dK (kvR (putA s2.rs md b)))) := (b24.trans (But.of (e5.trans e6))).upd in_R
  generalize upd H6 A'.aR (.dK (kvR (putA s2.rs md b))) = H7 at sc7 b7 ⊢
  have wf7 : WfS ⟨keysA s2.rs, putA s2.rs md b, s2.ex⟩ := ⟨w2.rs, fun q hq => by
    rcases putA_mem.mp hq with rfl | hq
    · exact gr.ex _ (putA_mem.mpr (.inl rfl))
    · exact w2.rs q hq, putA_nodup w2.nr, w2.nx, w2.ni⟩
  refine q_cut (M := fun σ H' => σ = [some (.ref p), some (.str md), some (.bl b)] ∧ ∃ xs', CoAt HB H' A' ⟨keysA s2.rs, putA s2.rs md b, if b then s2.ex else putA s2.ex md []⟩ xs' ∧ But (ownS A' xs) H H' ∧ ∀ c ∈ ownS A' xs', c ∈ ownS A' xs ∨ H c = none) ?_ ?_
  · refine s_when (b := !b) (et_not (et_B (ev_var rfl))) (fun hb H8 e8 => ?_) (fun hb H8 e8 => ?_)
    · have hb : b = false := by cases b <;> first | rfl | cases hb
      subst hb
      intro a2 za2
      have sc8 := sc7.ex e8
      have ea2 : Ex H8 (upd H8 a2 (.dK [])) := Ex.new za2
      have na2 : a2 ∉ ownS A' xs3 := fun z => by
        obtain ⟨o, h1, _⟩ := sc8.own_some a2 z
        rw [za2] at h1
        cases h1
      have o2a : a2 ∈ ownS A' xs ∨ H a2 = none := noO (b7.trans (But.of e8)) za2
      refine ev_dget (v := .ref A'.aE) (ev_var rfl) ev_c (ea2 _ _ (sc8.bx _ _ di.hp)) kvS_e _ (Ex.refl _) _ fun H9 e9 => ⟨.str md, rfl, A'.aE, _, rfl, .inl ⟨kvE xs3, .inr md, e9 _ _ (ea2 _ _ sc8.exd), rfl, sz_lt (by
        have := f2.ex
        have z : exs0 xs3 = s2.ex := sc4.exs
        rw [← z] at this
        unfold exs0 at this
        rw [List.length_map] at this
        show (List.map _ xs3).length < 100000
        rw [List.length_map]
        omega), rfl⟩, ?_⟩
      have eE2 : (HO.dK (putK (kvE xs3) (.inr md) (.ref a2))) = .dK (kvE (putA xs3 md (a2, []))) := by
        unfold kvE
        rw [putK_map (fun r : Addr × Ints => V.ref r.1) xs3 md (a2, [])]
      rw [eE2]
      obtain ⟨sc11, in11⟩ := (sc8.ex (ea2.trans e9)).newE wf7 (md := md) (e9 _ _ upd_same) na2 (fresh_back sc8.bx za2)
      exact ⟨rfl, putA xs3 md (a2, []), sc11, (b7.trans (But.of (e8.trans (ea2.trans e9)))).upd in_E, fun c hc => by
        rcases in11 c hc with rfl | hc
        · exact o2a
        · exact n24 c hc⟩
    · have hb : b = true := by cases b <;> first | rfl | cases hb
      subst hb
      exact ⟨rfl, xs3, sc7.ex e8, b7.trans (But.of e8), n24⟩
  rintro σ H8 ⟨rfl, xs8, sc8, b8, n8⟩
  have lk : ((keysA s2.rs).map V.str).length < 100000 := by
    have := f2.rs
    unfold keysA
    rw [List.length_map, List.length_map]
    omega
  refine s_app (l := A'.aO) (xs := (keysA s2.rs).map V.str) (v := .str md) sc8.op (ev_dget (v := .ref A'.aO) (ev_var rfl) ev_c (sc8.bx _ _ di.hp) kvS_o) (ev_var rfl) lk fun H9 e9 => ?_
  have eO : ((keysA s2.rs).map V.str ++ [V.str md]) = (keysA s2.rs ++ [md]).map V.str := by rw [List.map_append]; rfl
  rw [eO, ← kp]
  refine q xs8 _ ?_ ((b8.trans (But.of e9)).upd in_O) n8
  rw [hs']
  exact (sc8.ex e9).setO (keysA (putA s2.rs md b))
theorem dones_at {j : Nat} (dS : ∀ (n k : Nat), HasO P w K mg base k "_law_done" pDone (spDone n) → HasO P w K mg base (k + 1) "_law_started" ["_law_scene", "_law_module"] (spStarted (n + 1))) (dD : ∀ (n k : Nat), HasO P w K mg base k "_law_started" ["_law_scene", "_law_module"] (spStarted n) → HasO P w K mg base (k + 1) "_law_done" pDone (spDone n)) (d0 : HasO P w K mg base j "_law_started" ["_law_scene", "_law_module"] (spStarted 0)) :
    ∀ n, HasO P w K mg base (j + 2 * n + 1) "_law_done" pDone (spDone n) := by
  have go : ∀ n, HasO P w K mg base (j + 2 * n) "_law_started" ["_law_scene", "_law_module"] (spStarted n) := by
    intro n
    induction n with
    | zero => exact d0
    | succ n ih =>
      have e : j + 2 * (n + 1) = (j + 2 * n + 1) + 1 := by omega
      rw [e]
      exact dS n _ (dD n _ ih)
  exact fun n => dD n _ (go n)
end
end Cr
/-! the law's own evaluator: _law_all_done -/
namespace Cr
open PySem PySem.Spec PyProof.Rows L2 Evl
abbrev sAllD : Stmt := topS 62
abbrev nAllD : List Str := ["_law_modules_here", "_law_mains", "_law_scene", "_law_rows", "_law_name", "_law_is_ended", "_law_box", "_law_found", "_law_one"]
theorem scAllD : FnScope nAllD ["_law_modules_here", "_law_mains"] (defScope sAllD) := ⟨rfl, rfl, rfl, by decide +kernel, rfl, by decide +kernel, by decide +kernel⟩
def spAllD (n : Nat) : Sp := fun vs H Q _ => ∃ D Mn kvs L M labs es s', vs = [.ref D, .ref Mn] ∧ MdLk H Mn D kvs L M ∧ MainsV L M ∧ LibU labs L ∧ mainsS (initS L n) M s0S = some (es, s') ∧
  ∀ t o l H', H t = none → Ex H H' → H' t = some (.tup [.ref o, .ref l]) → Dt H' (.ref o) (outD s' es) → H' l = some (.lst ((keysA s'.rs).map V.str)) → Q (.ref t) H'
section
variable {P : Program} {w : World} {K : PySem.W.Frag} {mg : Str → Option Value} {base : Heap}
theorem ok_alld {f : Addr} {fd : FuncData} {k n : Nat} (F : Fun K "_law_all_done" "_law_all_done" sAllD f fd) (B : Blt mg) (h1 : HasO P w K mg base k "_law_done" pDone (spDone n)) : FnOk P w K mg base CX0 (k + 1) f fd ["_law_modules_here", "_law_mains"] (spAllD n) := by
  obtain ⟨f1, d1, G1, b1, k1, g1⟩ := h1.ex
  refine F.ok scAllD (fun vs H Q E h => by obtain ⟨_, _, _, _, _, _, _, _, rfl, _⟩ := h; rfl) (fun cdv A outer s H vs Q E hr h => ?_)
  obtain ⟨D, Mn, kvs, L, M, labs, es, s', rfl, md, mv, LU, hms, q⟩ := h
  have hu := hu_of hr
  refine ⟨_, pss_cons (ps_par (i := 2) (j := 3) (by rfl) scAllD.nd rfl rfl (by decide) rfl rfl (pa_cons (pe_disp (pps_cons pe_str (pv 0) (pps_cons pe_str pe_dnewK (pps_cons pe_str pe_dnewK (pps_cons pe_str (pe_lst pa_nil) pps_nil)))) (by rfl) (by rfl) (fun z => by cases z) (by decide)) (pa_cons (pe_lst pa_nil) pa_nil)) (by rfl))
    (pss_cons (ps_lock (ps_for PassesOwn.never rfl (pi_keys (pv 1)) (pg_name (i := 4) scAllD.nd rfl (.inl rfl))
      (pss_cons (ps_asg (pe_call (E := E0) G1 hr (by rfl) g1 k1 b1 .nil pass0 (pa_cons (pv 2) (pa_cons pe_non (pa_cons (pe_dget hu (pv 1) (pv 4) (fun _ _ => rfl)) pa_nil)))) (pg_tup rfl (pgs_cons (pg_name (i := 5) scAllD.nd rfl (.inl rfl)) (pgs_cons (pg_name (i := 6) scAllD.nd rfl (.inr rfl)) pgs_nil))))
      (pss_one (ps_expr (pe_bm PySem.F.plainAttrs_list PySem.F.slot_list_append PySem.F.type_list_append mt_append (pv 3) (pa_cons (pe_tup (pa_cons (pv 4) (pa_cons (pe_ix ix_list (pe_lst (pa_cons pe_str (pa_cons pe_str pa_nil))) (pe_callTy call_int1 (by rfl) B.int bInt (pa_cons (pv 5) pa_nil)) (fun _ _ => rfl)) (pa_cons (pe_callTy call_tuple_of (by rfl) B.tuple bTuple (pa_cons
        (pe_lc (own := [("_law_one", 8)]) (g := gName 8) (tt := tYes) (te := tDGet (tVar 6) (tVar 8)) rfl scAllD.nd (pi_str pe_str) (blkOk_by (own := [("_law_one", 8)]) (N := nAllD) (sc := defScope sAllD) (by decide +kernel))
          (fun _ _ _ _ _ => pg_name (i := 8) scAllD.nd rfl (Or.inl rfl)) (fun _ _ _ _ _ => pts_nil) (fun _ _ _ _ _ => by exact pe_dget hu (pv 6) (pv 8) (fun _ _ => rfl))) pa_nil)) pa_nil)))) pa_nil)))))))
    (pss_cons (ps_set (i := 7) scAllD.nd rfl (.inl rfl) (pe_lst pa_nil))
    (pss_cons (ps_for PassesOwn.never rfl (pi_list (pe_callB (call_sortedD rfl) (by rfl) B.sorted bSrt (pa_cons (pe_dget hu (pv 2) pe_str (fun _ _ => rfl)) pa_nil))) (pg_name (i := 4) scAllD.nd rfl (.inl rfl))
      (pss_one (ps_expr (pe_bm PySem.F.plainAttrs_list PySem.F.slot_list_append PySem.F.type_list_append mt_append (pv 7) (pa_cons (pe_tup (pa_cons (pv 4) (pa_cons (pe_dget hu (pe_dget hu (pv 2) pe_str (fun _ _ => rfl)) (pv 4) (fun _ _ => rfl)) (pa_cons (pe_callTy call_tuple_of (by rfl) B.tuple bTuple (pa_cons
        (pe_callB (cr_sortItK rfl hr.units) (by rfl) B.sorted bSrt (pa_cons (pe_bm0 PySem.F.plainAttrs_dict PySem.F.slot_dict_items PySem.F.type_dict_items mt_itemsK (pe_dget hu (pe_dget hu (pv 2) pe_str (fun _ _ => rfl)) (pv 4) (fun _ _ => rfl))) pa_nil)) pa_nil)) pa_nil)))) pa_nil)))))
    (pss_one (ps_ret (pe_tup (pa_cons (pe_tup (pa_cons (pe_callTy call_tuple_of (by rfl) B.tuple bTuple (pa_cons (pv 7) pa_nil)) (pa_cons (pe_callTy call_tuple_of (by rfl) B.tuple bTuple (pa_cons (pe_callB (call_sortDt hr.units) (by rfl) B.sorted bSrt (pa_cons (pv 3) pa_nil)) pa_nil)) pa_nil))) (pa_cons (pe_dget hu (pv 2) pe_str (fun _ _ => rfl)) pa_nil)))))))), ?_⟩
  have lk := lkv_len md.k
  have l8 := mv.l8
  -- the scene
  intro p zp
  have np : ∀ {c : Addr} {o : HO}, H c = some o → c ≠ p := fun h => ne_of_none h zp
  refine ⟨.ref D, rfl, fun aR zR => fun aE zE => ⟨Nat.zero_le _, fun aO zO => ?_⟩⟩
  have nR : aR ≠ p := fun e => by rw [e, upd_same] at zR; cases zR
  have zR0 : H aR = none := by rw [upd_ne nR] at zR; exact zR
  have nER : aE ≠ aR := fun e => by rw [e, upd_same] at zE; cases zE
  have nE : aE ≠ p := fun e => by rw [e, upd_ne nR.symm, upd_same] at zE; cases zE
  have zE0 : H aE = none := by rw [upd_ne nER, upd_ne nE] at zE; exact zE
  have nOE : aO ≠ aE := fun e => by rw [e, upd_same] at zO; cases zO
  have nOR : aO ≠ aR := fun e => by rw [e, upd_ne nER.symm, upd_same] at zO; cases zO
  have nO : aO ≠ p := fun e => by rw [e, upd_ne nE.symm, upd_ne nR.symm, upd_same] at zO; cases zO
  have zO0 : H aO = none := by rw [upd_ne nOE, upd_ne nOR, upd_ne nO] at zO; exact zO
  obtain ⟨A', hA⟩ : ∃ A' : ScA, A' = ⟨p, p, aO, aR, aE⟩ := ⟨_, rfl⟩
  refine ⟨by rw [upd_ne nO.symm, upd_ne nE.symm, upd_ne nR.symm, upd_same], [(.inr "modules", .ref D), (.inr "states", .ref aR), (.inr "exports", .ref aE), (.inr "order", .ref aO)], rfl, by show 4 ≤ 15; decide, Nat.zero_le _, fun rl zrl => ⟨_, _, rfl, ?_⟩⟩
  have em : mergeK [] [((.inr "modules" : Key), V.ref D), (.inr "states", .ref aR), (.inr "exports", .ref aE), (.inr "order", .ref aO)] = kvS D A' := by rw [hA]; rfl
  rw [em] at zrl ⊢
  dsimp only
  obtain ⟨HB, hHB⟩ : ∃ HB, HB = upd H p (.dK (kvS D A')) := ⟨_, rfl⟩
  have hp0 : HB p = some (.dK (kvS D A')) := by rw [hHB, upd_same]
  have e0 : Ex H HB := by rw [hHB]; exact Ex.new zp
  have sc0 : CoAt HB (upd (upd (upd (upd (upd (upd H p (.dK [])) aR (.dK [])) aE (.dK [])) aO (.lst [])) p (.dK (kvS D A'))) rl (.lst [])) A' (lw s0S) [] := by
    have nrl : ∀ {c : Addr} {o : HO}, (upd (upd (upd (upd (upd H p (.dK [])) aR (.dK [])) aE (.dK [])) aO (.lst [])) p (.dK (kvS D A'))) c = some o → c ≠ rl := fun h => ne_of_none h zrl
    have hO : (upd (upd (upd (upd (upd H p (.dK [])) aR (.dK [])) aE (.dK [])) aO (.lst [])) p (.dK (kvS D A'))) aO = some (.lst []) := by rw [upd_ne nO, upd_same]
    have hE : (upd (upd (upd (upd (upd H p (.dK [])) aR (.dK [])) aE (.dK [])) aO (.lst [])) p (.dK (kvS D A'))) aE = some (.dK []) := by rw [upd_ne nE, upd_ne nOE.symm, upd_same]
    have hR : (upd (upd (upd (upd (upd H p (.dK [])) aR (.dK [])) aE (.dK [])) aO (.lst [])) p (.dK (kvS D A'))) aR = some (.dK []) := by rw [upd_ne nR, upd_ne nOR.symm, upd_ne nER.symm, upd_same]
    refine ⟨?_, ?_, ?_, rfl, (fun r hr => nomatch hr), ?_, fun a ha => ?_, fun a o ha => ?_⟩
    · rw [hA]; show upd _ rl _ aO = _; rw [upd_ne (by rw [hA] at nrl; exact nrl (by rw [hA] at hO; exact hO))]; rw [hA] at hO; exact hO
    · rw [hA]; show upd _ rl _ aR = _; rw [upd_ne (by rw [hA] at nrl; exact nrl (by rw [hA] at hR; exact hR))]; rw [hA] at hR; exact hR
    · rw [hA]; show upd _ rl _ aE = _; rw [upd_ne (by rw [hA] at nrl; exact nrl (by rw [hA] at hE; exact hE))]; rw [hA] at hE; exact hE
    · rw [hA]
      show [aO, aR, aE].Nodup
      simp only [List.nodup_cons, List.mem_cons, List.not_mem_nil, or_false, not_or]
      exact ⟨⟨nOR, nOE⟩, nER.symm, not_false, List.nodup_nil⟩
    · rw [hA] at ha
      have ha : a ∈ [aO, aR, aE] := ha
      simp only [List.mem_cons, List.not_mem_nil, or_false] at ha
      rw [hHB]
      rcases ha with rfl | rfl | rfl
      · rw [upd_ne nO]; exact zO0
      · rw [upd_ne nR]; exact zR0
      · rw [upd_ne nE]; exact zE0
    · rw [hHB] at ha
      by_cases e : a = p
      · rw [e, upd_same] at ha
        rw [e, upd_ne (fun z => by rw [← z, upd_same] at zrl; cases zrl), upd_same]
        exact ha
      · rw [upd_ne e] at ha
        have h5 : (upd (upd (upd (upd (upd H p (.dK [])) aR (.dK [])) aE (.dK [])) aO (.lst [])) p (.dK (kvS D A'))) a = some o := by
          rw [upd_ne e, upd_ne (ne_of_none ha zO0), upd_ne (ne_of_none ha zE0), upd_ne (ne_of_none ha zR0), upd_ne e]
          exact ha
        rw [upd_ne (nrl h5)]
        exact h5
  have hrl0 : (upd (upd (upd (upd (upd (upd H p (.dK [])) aR (.dK [])) aE (.dK [])) aO (.lst [])) p (.dK (kvS D A'))) rl (.lst [])) rl = some (.lst []) := upd_same
  have nrl0 : rl ∉ ownS A' [] := fun z => by
    rw [hA] at z zrl
    have z : rl ∈ [aO, aR, aE] := z
    simp only [List.mem_cons, List.not_mem_nil, or_false] at z
    rcases z with rfl | rfl | rfl
    · rw [upd_ne nO, upd_same] at zrl; cases zrl
    · rw [upd_ne nR, upd_ne nOR.symm, upd_ne nER.symm, upd_same] at zrl; cases zrl
    · rw [upd_ne nE, upd_ne nOE.symm, upd_same] at zrl; cases zrl
  have zrlB : HB rl = none := by
    have nrp : rl ≠ p := fun z => by rw [z, upd_same] at zrl; cases zrl
    rw [hHB, upd_ne nrp]
    cases hh : H rl with
    | none => rfl
    | some o =>
      rw [upd_ne nrp, upd_ne (ne_of_none hh zO0), upd_ne (ne_of_none hh zE0), upd_ne (ne_of_none hh zR0), upd_ne nrp] at zrl
      rw [hh] at zrl
      cases zrl
  show tSeq _ _ _ [some (.ref D), some (.ref Mn), some (.ref p), some (.ref rl), none, none, none, none, none] _
  generalize (upd (upd (upd (upd (upd (upd H p (.dK [])) aR (.dK [])) aE (.dK [])) aO (.lst [])) p (.dK (kvS D A'))) rl (.lst [])) = H1 at sc0 hrl0 ⊢
  clear zrl nOE nOR nO nE nER nR zO zE zR zO0 zE0 zR0 em
  have hdB := e0 _ _ md.d
  have hd1 := sc0.bx _ _ hdB
  have nrM : rl ≠ Mn := fun e => by rw [e, hd1] at hrl0; cases hrl0
  have npM : p ≠ Mn := (np md.d).symm
  -- the main programs, one after another
  refine ⟨Mn, .dK kvs, hd1, trivial, fun od => ?_⟩
  have scL := sc0.lock (od := od) hdB
  have hrl1 : (upd H1 Mn (.frz od (.dK kvs))) rl = some (.lst []) := by rw [upd_ne nrM]; exact hrl0
  have eL : Ex (upd H Mn (.frz od (.dK kvs))) (upd HB Mn (.frz od (.dK kvs))) := fun a o z => by
    by_cases e : a = Mn
    · rw [e, upd_same] at z ⊢
      exact z
    · rw [upd_ne e] at z ⊢
      exact e0 _ _ z
  have hpL : (upd HB Mn (.frz od (.dK kvs))) p = some (.dK (kvS D A')) := by rw [upd_ne npM]; exact hp0
  have dmL := Dt.ex eL (md.dl od)
  refine ⟨.ref Mn, rfl, Mn, od, rfl, .inl ⟨kvs, upd_same, for_it walk_keys (fun m σ' H' => ∃ y4 y5 y6 y7 y8 s xs es0 vs es2, σ' = [some (.ref D), some (.ref Mn), some (.ref p), some (.ref rl), y4, y5, y6, y7, y8] ∧ DnIn labs L D (upd HB Mn (.frz od (.dK kvs))) H' p A' s xs ∧ H' rl = some (.lst vs) ∧ RowsAt H' vs es0 ∧ rl ∉ ownS A' xs ∧ es0.length = m ∧ mainsS (initS L n) (M.drop m) s = some (es2, s') ∧ es = es0 ++ es2)
    ⟨_, _, _, _, _, s0S, [], [], [], es, rfl, ⟨hpL, dmL, LU, scL, wf0, nm0 _ _⟩, hrl1, trivial, nrl0, rfl, by rw [List.drop_zero]; exact hms, rfl⟩ (fun m σ' H' _ hP => ?_) (fun m u σ' H' H'' hm hP hY => ?_) (fun σ' H6 hP => ?_)⟩⟩
  · obtain ⟨_, _, _, _, _, _, _, _, _, _, _, di, _⟩ := hP
    exact di.sc.bx _ _ upd_same
  · obtain ⟨y4, y5, y6, y7, y8, s1, xs1, es0, vs, es2, rfl, di, hrl, rows, nrl1, hl0, hms1, hes⟩ := hP
    obtain ⟨rfl, k0, v0, hk0, rfl⟩ := hY
    have hml : m < M.length := by omega
    obtain ⟨v, hv, dv⟩ := lkv_get (md.lk od) (List.getElem?_eq_getElem hml)
    rw [hk0] at hv
    cases hv
    have hin := List.getElem_mem hml
    have nmm := mv.nm _ hin
    have pvm := mv.ok _ hin
    obtain ⟨v', hv', dv'⟩ := lkv_at (n := M[m].1) (md.lk od) (List.mem_map_of_mem (f := (·.1)) hin)
    rw [progL_in mv.nd hin] at dv'
    have hdr : M.drop m = M[m] :: M.drop (m + 1) := List.drop_eq_getElem_cons hml
    rw [hdr] at hms1
    have pg := main_kn (labs := labs) mv hin
    generalize M[m] = r at hin nmm pvm hv' dv' hms1 pg
    obtain ⟨b, m1, s2, es3, hx, hms2, rfl⟩ := mains_cons hms1
    obtain ⟨pr, ys, rfl, hpr, hys⟩ := steps_prog pvm (Dt.ex eL dv')
    show tSeq _ _ _ [some (.ref D), some (.ref Mn), some (.ref p), some (.ref rl), some (.str r.1), y5, y6, y7, y8] H''
    refine q_asgGL ?_
    refine ⟨.ref p, rfl, .ref Mn, rfl, .str r.1, rfl, Mn, .ref pr, rfl, .inl ⟨kvs, .inr r.1, .inr ⟨od, di.sc.bx _ _ upd_same⟩, rfl, hv'.symm⟩, ?_⟩
    refine ⟨upd HB Mn (.frz od (.dK kvs)), L, labs, p, D, A', s1, xs1, none, pr, ys, vsP r.2, b, m1, s2, rfl, di, hpr, hys, pg, (fun z hz => nomatch hz), hx, fun xs3 H4 t bx sc4 ht hbx b4 n4 => ?_⟩
    refine pair_go ht ?_
    have hrl4 := b4 _ _ nrl1 hrl
    have rows4 := RowsAt.tps (di.sc.tps b4) rows
    have nrl4 : rl ∉ ownS A' xs3 := fun z => by
      rcases n4 rl z with y | y
      · exact nrl1 y
      · rw [hrl] at y; cases y
    obtain ⟨gr, w2⟩ := exec_gr (init_good LU.n.r n) pg.kn.po _ _ di.wf (by intro z hz; cases hz) (by intro z hz; cases hz) hx
    have nm2 := exec_nm (init_good LU.n.r n) (init_nm LU.n n) pg.kn _ _ di.wf di.nm (by intro z hz; cases hz) (by intro z hz; cases hz) hx
    show tDrop _ _ [some (.ref D), some (.ref Mn), some (.ref p), some (.ref rl), some (.str r.1), some (.bl b), some (.ref bx), y7, y8] H4
    have ev1 : Ev (tOp (rIxL K) (tLst (tCons (tC (.str "failed")) (tCons (tC (.str "ended")) tNil))) (tCB (fun xs H Q => (∃ i, xs = [V.int i] ∧ Q (.int i) H) ∨ ∃ k, xs = [V.bl k] ∧ Q (.int (if k = true then 1 else 0)) H) (tCons (tVar 5) tNil))) [some (.ref D), some (.ref Mn), some (.ref p), some (.ref rl), some (.str r.1), some (.bl b), some (.ref bx), y7, y8] H4 (.str (stE b)) := by
      refine ev_opL1 (y := .int (b01 b)) (el_lst (ea_cons ev_c (ea_cons ev_c ea_nil)) (by show 2 ≤ 100000; decide)) (fun H1 _ => ev_cb (ea_cons (ev_var rfl) ea_nil) (fun H6 e6 Q q => .inr ⟨b, rfl, q H6 (Ex.refl H6)⟩)) fun p H1 h _ => rv_ixL (sq_of h) ?_
      cases b <;> rfl
    refine ⟨.ref rl, rfl, .inl ⟨rfl, _, sq_of hrl4⟩, ?_⟩
    refine ⟨.str r.1, rfl, ev1 H4 (Ex.refl H4) _ fun H5 e5 => ?_⟩
    refine eu_tupleOf (el_box (m := m1) (e5 _ _ hbx) (fun _ => rfl) (fun _ => rfl) (fun _ => rfl)) H5 (Ex.refl H5) _ fun t4 H6 z4 e6 ht4 => ⟨by show 3 ≤ sizeLine; decide, fun t7 z7 => ?_⟩
    have e7 : Ex H6 (upd H6 t7 (.tup [.str r.1, .str (stE b), .ref t4])) := Ex.new z7
    have h7 : (upd H6 t7 (.tup [.str r.1, .str (stE b), .ref t4])) t7 = some (.tup [.str r.1, .str (stE b), .ref t4]) := upd_same
    generalize upd H6 t7 (.tup [.str r.1, .str (stE b), .ref t4]) = H7 at e7 h7
    have e47 := (e5.trans e6).trans e7
    have hrl7 := e47 _ _ hrl4
    have lv := RowsAt.len rows4
    refine ⟨rl, vs, .ref t7, rfl, rfl, hrl7, by rw [lv, hl0, sizeLine_eq]; omega, ?_⟩
    have row : RowAt H7 (.ref t7) (r.1, b, m1) := ⟨t7, t4, rfl, h7, e7 _ _ ht4⟩
    have b8 : But [rl] H4 (upd H7 rl (.lst (vs ++ [.ref t7]))) := (But.of e47).upd (by simp)
    have tp8 : Tps H7 (upd H7 rl (.lst (vs ++ [.ref t7]))) := fun a ys z => by
      rw [upd_ne (fun e => by rw [e, hrl7] at z; cases z)]
      exact z
    have sc8 := sc4.but b8 (fun a ha z => nrl4 (by rw [← List.mem_singleton.mp z]; exact ha)) (fun a ha => by rw [List.mem_singleton.mp ha, upd_ne nrM]; exact zrlB)
    exact ⟨_, _, _, _, _, s2, xs3, es0 ++ [(r.1, b, m1)], _, es3, rfl, ⟨hpL, dmL, LU, sc8, w2, nm2⟩, upd_same, RowsAt.snoc (row.tps tp8) ((RowsAt.tps (fun _ _ h => e47 _ _ h) rows4).tps tp8), nrl4, by rw [List.length_append, hl0]; rfl, hms2, by rw [hes, List.append_assoc]; rfl⟩
  obtain ⟨y4, y5, y6, y7, y8, s1, xs1, es0, vs, es2, rfl, di, hrl, rows, nrl1, hl0, hms1, hes⟩ := hP
  refine ⟨di.sc.bx _ _ upd_same, ?_⟩
  rw [show M.drop kvs.length = [] by rw [lk]; exact List.drop_length] at hms1
  cases hms1
  rw [List.append_nil] at hes
  subst hes
  have wf := di.wf
  have nm := di.nm
  obtain ⟨_, lb⟩ := mains_lb LU.n.r mv.ok wf0 (lb0 L) hms
  have x30 := ex30 LU.n.r wf lb
  have sc7 := di.sc.unlock hdB
  have hrl7 : (upd H6 Mn (.dK kvs)) rl = some (.lst vs) := by rw [upd_ne nrM]; exact hrl
  have rows7 : RowsAt (upd H6 Mn (.dK kvs)) vs es := RowsAt.tps (fun a ys z => by
    rw [upd_ne (fun e => by rw [e, di.sc.bx _ _ upd_same] at z; cases z)]
    exact z) rows
  generalize upd H6 Mn (.dK kvs) = H7 at sc7 hrl7 rows7 ⊢
  have fr : s'.rs.length ≤ 40 := by
    have z := len_sub wf.nr nm.rs
    unfold keysA at z
    rw [List.length_map, List.length_map] at z
    have := LU.v.l40
    omega
  dsimp only
  refine q_asgAny ?_
  refine ⟨Nat.zero_le _, fun fl zfl => ?_⟩
  show tSeq _ _ _ [some (.ref D), some (.ref Mn), some (.ref p), some (.ref rl), y4, y5, y6, some (.ref fl), y8] _
  have e8 : Ex H7 (upd H7 fl (.lst [])) := Ex.new zfl
  have hfl8 : (upd H7 fl (.lst [])) fl = some (.lst []) := upd_same
  have nfl : fl ∉ ownS A' xs1 := fun z => by
    obtain ⟨o, h1, _⟩ := sc7.own_some fl z
    rw [zfl] at h1; cases h1
  have nflr : fl ≠ rl := fun e => by rw [e, hrl7] at zfl; cases zfl
  have zflB : HB fl = none := fresh_back sc7.bx zfl
  generalize upd H7 fl (.lst []) = H8 at e8 hfl8 ⊢
  have sc8 := sc7.ex e8
  have hrl8 := e8 _ _ hrl7
  have rows8 := RowsAt.tps (fun _ _ h => e8 _ _ h) rows7
  have lS : (srtS (keysA s'.rs)).length ≤ 40 := by
    have := (srtS_perm (keysA s'.rs)).length_eq
    unfold keysA at this
    rw [List.length_map] at this
    unfold keysA
    omega
  have modT : ∀ ns : List Str, tupOA (ns.map (modRow s')) = true := fun ns => tupOA_all fun d hd => by
    obtain ⟨l, _, rfl⟩ := List.mem_map.mp hd
    exact rowMo_tup _ _ _
  have fld : ∀ {H' : Hp} {σ : L2.St} {x : Str} {v : V}, Ex HB H' → σ[2]? = some (some (.ref p)) → valV (kvS D A') (.inr x) = some v → Ev (tDGet (tVar 2) (tC (.str x))) σ H' v := fun e h hv => ev_dget (ev_var h) ev_c (e _ _ hp0) hv
  refine q_forNL (K := K) (el_srtK (l := s'.rs) (fun r => rdV r.2) (fld sc8.bx rfl kvS_s) sc8.rs (by omega)) (fun S i σ' H' => ∃ y4 fs, σ' = [some (.ref D), some (.ref Mn), some (.ref p), some (.ref rl), y4, y5, y6, some (.ref fl), y8] ∧ CoAt HB H' A' (lw s') xs1 ∧ H' rl = some (.lst vs) ∧ RowsAt H' vs es ∧ H' S = some (.lst ((srtS (keysA s'.rs)).map V.str)) ∧ S ≠ fl ∧ H' fl = some (.lst fs) ∧ DtAll H' fs (((srtS (keysA s'.rs)).take i).map (modRow s')))
    (fun S H9 zS e9 hS => ⟨_, [], rfl, sc8.ex e9, e9 _ _ hrl8, RowsAt.tps (fun _ _ h => e9 _ _ h) rows8, hS, (ne_of_none hfl8 zS).symm, e9 _ _ hfl8, .nil⟩) (fun S i σ' H' _ hP => by obtain ⟨_, _, _, _, _, _, hS, _⟩ := hP; exact sq_of hS) (fun S i x σ' H9 hx hP => ?_) (fun S σ' H9 hP => ?_)
  · obtain ⟨y4', fs, rfl, sc9, hrl9, rows9, hS9, nSf, hfl9, hfs⟩ := hP
    have hil : i < (srtS (keysA s'.rs)).length := by
      have := (List.getElem?_eq_some_iff.mp hx).1
      rw [List.length_map] at this
      exact this
    rw [List.getElem?_map, List.getElem?_eq_getElem hil] at hx
    cases hx
    have htk : (srtS (keysA s'.rs)).take (i + 1) = (srtS (keysA s'.rs)).take i ++ [(srtS (keysA s'.rs))[i]] := List.take_succ_eq_append_getElem hil
    have hmem := List.getElem_mem hil
    generalize (srtS (keysA s'.rs))[i] = md0 at htk hmem
    have hk := (srtS_perm (keysA s'.rs)).mem_iff.mp hmem
    obtain ⟨b, hb⟩ := getA_some hk
    have hkx := wf.rs md0 hk
    have hkx : md0 ∈ keysA (lw s').ex := hkx
    rw [← sc9.exs] at hkx
    unfold keysA exs0 at hkx
    rw [List.map_map] at hkx
    obtain ⟨ae, hae⟩ := getA_some (l := xs1) hkx
    obtain ⟨a, e⟩ := ae
    have ge : getA s'.ex md0 = some e := by
      have z : getA (lw s').ex md0 = some e := by
        rw [← sc9.exs]
        unfold exs0
        rw [getA_map (fun z : Addr × Ints => z.2), hae]
        rfl
      exact z
    have le : e.length ≤ 30 := x30 (md0, e) (getA_mem ge)
    have ndE := wf.ni (md0, e) (getA_mem ge)
    have z : modRow s' md0 = rowMo md0 b e := by unfold modRow; rw [hb, ge]; rfl
    show tDrop _ _ [some (.ref D), some (.ref Mn), some (.ref p), some (.ref rl), some (.str md0), y5, y6, some (.ref fl), y8] H9
    refine ⟨.ref fl, rfl, .inl ⟨rfl, _, sq_of hfl9⟩, ?_⟩
    refine ⟨.str md0, rfl, ?_⟩
    refine ev_dget (x := md0) (v := rdV b) (fld sc9.bx rfl kvS_s) (ev_var rfl) sc9.rs (by unfold kvR; rw [show (lw s').rs = s'.rs from rfl, valV_mapA rdV, hb]; rfl) H9 (Ex.refl _) _ fun H10 e10 => ?_
    refine ev_dget (x := md0) (v := .ref a) (fld (sc9.bx.trans e10) rfl kvS_e) (ev_var rfl) (e10 _ _ sc9.exd) (by unfold kvE; rw [valV_mapA (fun r : Addr × Ints => V.ref r.1), hae]; rfl) H10 (Ex.refl _) _ fun H11 e11 => ?_
    have e911 := e10.trans e11
    have ha := e911 _ _ (sc9.ini _ (getA_mem hae))
    refine ⟨.inr (.inr (.inl ⟨rfl, .inl ⟨_, ha⟩⟩)), a, kvI e, rfl, rfl, ha, fun vw zvw => ?_⟩
    have nav : a ≠ vw := ne_of_none ha zvw
    refine ⟨vw, a, e, rfl, upd_same, by rw [upd_ne nav]; exact ha, by omega, fun sl H12 zsl e12 dsl => ?_⟩
    have e912 : Ex H9 H12 := e911.trans ((Ex.new zvw).trans e12)
    rw [exp_sort ndE] at dsl
    obtain ⟨sa, sxs, esa, hsa, dsx⟩ := dt_lst dsl
    cases esa
    refine ⟨sl, sxs, rfl, .inl ⟨sq_of hsa, fun te zte => ⟨by show 3 ≤ sizeLine; decide, fun t7 z7 => ?_⟩⟩⟩
    have e13 : Ex H12 (upd H12 te (.tup sxs)) := Ex.new zte
    have e14 : Ex (upd H12 te (.tup sxs)) (upd (upd H12 te (.tup sxs)) t7 (.tup [.str md0, rdV b, .ref te])) := Ex.new z7
    have dt7 : Dt (upd (upd H12 te (.tup sxs)) t7 (.tup [.str md0, rdV b, .ref te])) (.ref t7) (rowMo md0 b e) := .tup upd_same (.cons (.str _) (.cons (.str _) (.cons (.tup (e14 _ _ upd_same) (DtAll.ex (e13.trans e14) dsx)) .nil)))
    have e914 := e912.trans (e13.trans e14)
    generalize upd (upd H12 te (.tup sxs)) t7 (.tup [.str md0, rdV b, .ref te]) = H14 at dt7 e914
    have hfl14 := e914 _ _ hfl9
    have lf := dtAll_len hfs
    rw [List.length_map, List.length_take] at lf
    refine ⟨fl, fs, .ref t7, rfl, rfl, hfl14, by rw [lf, sizeLine_eq]; omega, ?_⟩
    have b15 : But [fl] H9 (upd H14 fl (.lst (fs ++ [.ref t7]))) := (But.of e914).upd (by simp)
    have tp15 : Tps H14 (upd H14 fl (.lst (fs ++ [.ref t7]))) := fun a ys z => by
      rw [upd_ne (fun e => by rw [e, hfl14] at z; cases z)]
      exact z
    refine ⟨_, _, rfl, sc9.but b15 (fun a ha z => nfl (by rw [← List.mem_singleton.mp z]; exact ha)) (fun a ha => by rw [List.mem_singleton.mp ha]; exact zflB), by rw [upd_ne nflr.symm]; exact e914 _ _ hrl9, (RowsAt.tps (fun _ _ h => e914 _ _ h) rows9).tps tp15, by rw [upd_ne nSf]; exact e914 _ _ hS9, nSf, upd_same, ?_⟩
    rw [htk, List.map_append]
    refine dtAll_app (DtAll.tps tp15 (modT _) (DtAll.ex e914 hfs)) (.cons ?_ .nil)
    rw [z]
    exact Dt.tps tp15 (rowMo_tup _ _ _) dt7
  · obtain ⟨y4', fs, rfl, sc9, hrl9, rows9, hS9, nSf, hfl9, hfs⟩ := hP
    rw [List.length_map, List.take_length] at hfs
    have ev : EvD (tTup (tCons (tCB (rTupleOf K) (tCons (tVar 7) tNil)) (tCons (tCB (rTupleOf K) (tCons (tCB rSortDt (tCons (tVar 3) tNil)) tNil)) tNil))) [some (.ref D), some (.ref Mn), some (.ref p), some (.ref rl), y4', y5, y6, some (.ref fl), y8] H9 (outD s' es) := by
      refine evd_tup (evda_cons (evd_tupleOf (evd_var rfl (.lst hfl9 hfs))) (evda_cons (evd_tupleOf ?_) evda_nil)) (by show 2 ≤ 1000; decide)
      intro H10 e10 Q3 q3
      exact ⟨.ref rl, rfl, rl, vs, es.map rowE, rfl, e10 _ _ hrl9, (RowsAt.tps (fun _ _ h => e10 _ _ h) rows9).dts, rows_alike es, rows_sortable es, stE_rows, fun ys S zS hys => q3 _ _ (Ex.new zS) (.lst upd_same (DtAll.ex (Ex.new zS) hys))⟩
    refine ret_tup2 ?_
    refine ev H9 (Ex.refl H9) _ fun v H10 e10 dv => ?_
    refine fld (sc9.bx.trans e10) rfl kvS_o H10 (Ex.refl H10) _ fun H11 e11 => ⟨by show 2 ≤ sizeLine; decide, fun t zt => ?_⟩
    obtain ⟨o, rfl⟩ : ∃ o, v = .ref o := by
      unfold outD at dv
      cases dv
      exact ⟨_, rfl⟩
    have e12 : Ex H11 (upd H11 t (.tup [.ref o, .ref A'.aO])) := Ex.new zt
    have eAll := (e0.trans sc9.bx).trans (e10.trans e11)
    exact q t o A'.aO _ (fresh_back eAll zt) (eAll.trans e12) upd_same (Dt.ex (e11.trans e12) dv) (e12 _ _ (e11 _ _ (e10 _ _ sc9.op)))
end
end Cr
/-! the law's evaluator asked for its two answers -/
namespace Cr
open PySem PySem.Spec PyProof.Rows L2 Evl
section
variable {σ : L2.St} {H : Hp} {i j : Nat} {CL lib D Mn : Addr} {L M : Lib} {labs : List Str} {n : Nat} {es : List MEnd} {s' : Sc} {tj : TE}
theorem evd_alld0 {K : PySem.W.Frag} {kvs : List (Key × V)} (hi : σ[i]? = some (some (.ref D))) (hj : Ev tj σ H (.ref Mn)) (md : MdLk H Mn D kvs L M) (mv : MainsV L M) (lu : LibU labs L) (ms : mainsS (initS L n) M s0S = some (es, s')) : EvD (tOp (rIxT K) (tCall (spAllD n) [] E0 (tCons (tVar i) (tCons tj tNil))) (tC (.int 0))) σ H (outD s' es) := fun H1 e Q q =>
  ⟨_, hi, hj H1 e _ fun H2 e2 => ⟨D, Mn, kvs, L, M, labs, es, s', rfl, md.ex (e.trans e2), mv, lu, ms, fun t o l H' zt e' ht dto hl => ⟨t, _, 0, .ref o, rfl, rfl, st_of ht, rfl, q (.ref o) H' (e2.trans e') dto⟩⟩⟩
end
end Cr
/-! plain runs (pure): how large values become -/
namespace Cr
open PySem PySem.Spec PyProof.Rows L2 Evl
def isAdd : List V → Bool
  | [.str z, .str _, .str _] => decide (z = "add")
  | _ => false
def addN (vss : List (List V)) : Nat := vss.countP isAdd
def bigM (e C : Nat) (m : M4) : Prop := m.a.natAbs * 2 ^ e ≤ C ∧ m.b.natAbs * 2 ^ e ≤ C ∧ m.c.natAbs * 2 ^ e ≤ C ∧ m.d.natAbs * 2 ^ e ≤ C
def bigE (e C : Nat) (s : Sc) : Prop := ∀ r ∈ s.ex, ∀ kv ∈ r.2, kv.2.natAbs * 2 ^ e ≤ C
theorem big_le {v e e' C : Nat} (h : v * 2 ^ e ≤ C) (l : e' ≤ e) : v * 2 ^ e' ≤ C := Nat.le_trans (Nat.mul_le_mul_left v (Nat.pow_le_pow_right (by decide) l)) h
theorem bigM.mono {e e' C : Nat} {m : M4} (h : bigM e C m) (l : e' ≤ e) : bigM e' C m := ⟨big_le h.1 l, big_le h.2.1 l, big_le h.2.2.1 l, big_le h.2.2.2 l⟩
theorem bigE.mono {e e' C : Nat} {s : Sc} (h : bigE e C s) (l : e' ≤ e) : bigE e' C s := fun r hr kv hk => big_le (h r hr kv hk) l
theorem bigM.get {e C : Nat} {m : M4} (h : bigM e C m) (x : Str) : (m.get x).natAbs * 2 ^ e ≤ C := by
  unfold M4.get
  split
  · exact h.1
  · split
    · exact h.2.1
    · split
      · exact h.2.2.1
      · exact h.2.2.2
theorem bigM.set {e C : Nat} {m : M4} (h : bigM e C m) (x : Str) {v : Int} (hv : v.natAbs * 2 ^ e ≤ C) : bigM e C (m.set x v) := by
  unfold M4.set
  split
  · exact ⟨hv, h.2.1, h.2.2.1, h.2.2.2⟩
  · split
    · exact ⟨h.1, hv, h.2.2.1, h.2.2.2⟩
    · split
      · exact ⟨h.1, h.2.1, hv, h.2.2.2⟩
      · exact ⟨h.1, h.2.1, h.2.2.1, hv⟩
theorem bigM_zero {e C : Nat} : bigM e C .zero := by
  have z : (0 : Int).natAbs * 2 ^ e ≤ C := by rw [show (0 : Int).natAbs = 0 from rfl, Nat.zero_mul]; exact Nat.zero_le _
  exact ⟨z, z, z, z⟩
theorem big_small {v e C : Nat} (h : 10 ^ 30 * 2 ^ e ≤ C) (l : v ≤ 10 ^ 30) : v * 2 ^ e ≤ C := Nat.le_trans (Nat.mul_le_mul_right _ l) h
theorem big_read {e C : Nat} {s : Sc} (h : bigE e C s) (c : 10 ^ 30 * 2 ^ e ≤ C) (seen : List Str) (md l : Str) : (readV s seen md l).natAbs * 2 ^ e ≤ C := by
  have one : (-1 : Int).natAbs * 2 ^ e ≤ C := big_small c (by decide)
  unfold readV
  split
  · cases h1 : getA s.ex md with
    | none => exact one
    | some ex =>
      show ((getA ex l).getD (-1)).natAbs * 2 ^ e ≤ C
      cases h2 : getA ex l with
      | none => exact one
      | some v => exact h (md, ex) (getA_mem h1) (l, v) (getA_mem h2)
  · exact one
theorem big_exp {e C : Nat} {s : Sc} (h : bigE e C s) {me : Option Str} {l : Str} {i : Int} (hi : i.natAbs * 2 ^ e ≤ C) : bigE e C (expS s me l i) := by
  cases me with
  | none => exact h
  | some n =>
    intro r hr kv hk
    have hr : r ∈ putA s.ex n (putA ((getA s.ex n).getD []) l i) := hr
    rcases putA_in hr with h1 | ⟨h1, _⟩
    · exact h r h1 kv hk
    · rw [h1] at hk
      rcases putA_in hk with h2 | ⟨h2, _⟩
      · cases h3 : getA s.ex n with
        | none => rw [h3] at h2; exact nomatch h2
        | some ex =>
          rw [h3] at h2
          exact h (n, ex) (getA_mem h3) kv h2
      · rw [h2]; exact hi
/-- the additions of the programs that are not begun -/
def leftN (L : Lib) (s : Sc) : Nat := (L.map fun r => if r.1 ∈ s.op ∨ r.1 ∈ keysA s.rs then 0 else addN (vsP r.2)).sum
theorem left_mono {s s' : Sc} (h : ∀ n, n ∈ s.op ∨ n ∈ keysA s.rs → n ∈ s'.op ∨ n ∈ keysA s'.rs) : ∀ L : Lib, leftN L s' ≤ leftN L s
  | [] => Nat.le_refl _
  | r :: L => by
    have ih := left_mono h L
    unfold leftN at ih ⊢
    rw [List.map_cons, List.map_cons, List.sum_cons, List.sum_cons]
    by_cases h1 : r.1 ∈ s.op ∨ r.1 ∈ keysA s.rs
    · rw [if_pos h1, if_pos (h r.1 h1)]
      omega
    · rw [if_neg h1]
      split <;> omega
theorem left_one {s s' : Sc} (h : ∀ n, n ∈ s.op ∨ n ∈ keysA s.rs → n ∈ s'.op ∨ n ∈ keysA s'.rs) {r0 : Str × Prog} (h0 : ¬ (r0.1 ∈ s.op ∨ r0.1 ∈ keysA s.rs)) (h1 : r0.1 ∈ s'.op ∨ r0.1 ∈ keysA s'.rs) : ∀ {L : Lib}, r0 ∈ L → leftN L s' + addN (vsP r0.2) ≤ leftN L s
  | [], hm => nomatch hm
  | r :: L, hm => by
    have mo := left_mono h L
    unfold leftN at mo ⊢
    rw [List.map_cons, List.map_cons, List.sum_cons, List.sum_cons]
    rcases List.mem_cons.mp hm with e | hm
    · rw [← e, if_neg h0, if_pos h1]
      omega
    · have ih := left_one h h0 h1 hm
      unfold leftN at ih
      by_cases h2 : r.1 ∈ s.op ∨ r.1 ∈ keysA s.rs
      · rw [if_pos h2, if_pos (h r.1 h2)]
        omega
      · rw [if_neg h2]
        split <;> omega
theorem left_gr {L : Lib} {s s' : Sc} (g : Gr s s') : leftN L s' ≤ leftN L s := left_mono (fun n hn => hn.imp (fun z => by rw [g.op]; exact z) (g.rs n)) L
def IntsB (vss : List (List V)) : Prop := ∀ us ∈ vss, ∀ i, V.int i ∈ us → i.natAbs ≤ 10 ^ 30
theorem vsP_ints {p : Prog} (v : ProgV p) : IntsB (vsP p) := fun us hu i hi => by
  obtain ⟨ds, hds, rfl⟩ := List.mem_map.mp hu
  have back := (step_vs (v.st ds hds)).1
  refine v.it ds hds i ?_
  rw [← back]
  exact List.mem_map.mpr ⟨_, hi, rfl⟩
def GoodB (L : Lib) (ini : ScF) : Prop := ∀ s md b s' k C, WfS s → ini s md = .ok (b, s') → bigE (leftN L s + k) C s → 10 ^ 30 * 2 ^ (leftN L s + k) ≤ C → bigE (leftN L s' + k) C s'
def addK (us : List V) : Nat := if isAdd us then 1 else 0
theorem memo_big {us : List V} (h : PlainV us) (hi : ∀ i, V.int i ∈ us → i.natAbs ≤ 10 ^ 30) {e C : Nat} {m : M4} (b : bigM (e + addK us) C m) (c : 10 ^ 30 * 2 ^ (e + addK us) ≤ C) : bigM e C (memo us m) := by
  have b0 := b.mono (Nat.le_add_right e (addK us))
  have c0 := big_le c (Nat.le_add_right e (addK us))
  cases h with
  | @set x i hx =>
    rw [memo_eq, if_pos rfl]
    exact b0.set x (big_small c0 (hi i (by simp)))
  | @skip x i hx h1 =>
    rw [memo_eq, if_neg ne_ss]
    exact b0
  | @add x y hx hy =>
    rw [memo_add]
    have ka : addK [V.str "add", .str x, .str y] = 1 := by
      show (if decide (("add" : Str) = "add") = true then 1 else 0) = 1
      exact if_pos (decide_eq_true rfl)
    rw [ka] at b
    refine b0.set x ?_
    have b1 := b.get x
    have b2 := b.get y
    have p : 2 ^ (e + 1) = 2 ^ e * 2 := Nat.pow_succ 2 e
    rw [p, ← Nat.mul_assoc] at b1 b2
    have t : (m.get x + m.get y).natAbs ≤ (m.get x).natAbs + (m.get y).natAbs := Int.natAbs_add_le _ _
    have := Nat.mul_le_mul_right (2 ^ e) t
    rw [Nat.add_mul] at this
    omega
theorem step_big {L : Lib} {ini : ScF} (gi : GoodI ini) (gb : GoodB L ini) {me : Option Str} {us : List V} (hus : PlainV us ∨ OtherV us) (hi : ∀ i, V.int i ∈ us → i.natAbs ≤ 10 ^ 30) {m m' : M4} {seen seen' : List Str} {s s' : Sc} {d k C : Nat} (wf : WfS s)
    (hE : bigE (leftN L s + k + addK us) C s) (hM : bigM (leftN L s + k + addK us) C m) (hC : 10 ^ 30 * 2 ^ (leftN L s + k + addK us) ≤ C)
    (h : stepX ini me us m seen s = .go d m' seen' s') : bigE (leftN L s' + k) C s' ∧ bigM (leftN L s' + k) C m' ∧ leftN L s' ≤ leftN L s := by
  have le : leftN L s + k ≤ leftN L s + k + addK us := Nat.le_add_right _ _
  have hE0 := hE.mono le
  have hM0 := hM.mono le
  have hC0 := big_le hC le
  rcases hus with hp | ov
  · rw [stepX_plain hp] at h
    cases h
    exact ⟨hE0, memo_big hp hi hM hC, Nat.le_refl _⟩
  · have nest : ∀ {md : Str} {b : Bool} {s2 : Sc}, ini s md = .ok (b, s2) → bigE (leftN L s2 + k) C s2 ∧ leftN L s2 ≤ leftN L s := fun {md b s2} hi2 =>
      ⟨gb s md b s2 k C wf hi2 hE0 hC0, left_gr (gi s md b s2 wf hi2).1⟩
    cases ov with
    | @exp a b =>
      rw [stepX_exp] at h
      cases h
      have e : leftN L (expS s me a (m.get b)) = leftN L s := by cases me <;> rfl
      rw [e]
      exact ⟨big_exp hE0 (hM0.get _), hM0, Nat.le_refl _⟩
    | read _ =>
      rw [stepX_read] at h
      cases h
      exact ⟨hE0, hM0.set _ (big_read hE0 hC0 _ _ _), Nat.le_refl _⟩
    | @need md =>
      rw [stepX_need] at h
      cases hi2 : ini s md with
      | error c => rw [hi2] at h; cases h
      | ok r =>
        obtain ⟨b, s2⟩ := r
        obtain ⟨n1, n2⟩ := nest hi2
        rw [hi2] at h
        cases b with
        | false => cases h
        | true =>
          cases h
          exact ⟨n1, hM0.mono (by omega), n2⟩
    | @try_ md x _ =>
      rw [stepX_try] at h
      cases hi2 : ini s md with
      | error c => rw [hi2] at h; cases h
      | ok r =>
        obtain ⟨b, s2⟩ := r
        obtain ⟨n1, n2⟩ := nest hi2
        have hC2 := big_le hC0 (show leftN L s2 + k ≤ leftN L s + k by omega)
        rw [hi2] at h
        cases b with
        | false =>
          cases h
          exact ⟨n1, (hM0.mono (by omega)).set _ (big_small hC2 (by decide)), n2⟩
        | true =>
          cases h
          exact ⟨n1, (hM0.mono (by omega)).set _ (big_small hC2 (by decide)), n2⟩
    | fail => rw [stepX_fail] at h; cases h
theorem halt_big {L : Lib} {ini : ScF} (gi : GoodI ini) (gb : GoodB L ini) {me : Option Str} {us : List V} (hus : PlainV us ∨ OtherV us) {m m' : M4} {seen : List Str} {s s' : Sc} {k C : Nat} (wf : WfS s)
    (hE : bigE (leftN L s + k) C s) (hC : 10 ^ 30 * 2 ^ (leftN L s + k) ≤ C) (h : stepX ini me us m seen s = .halt m' s') : bigE (leftN L s' + k) C s' ∧ m' = m ∧ leftN L s' ≤ leftN L s := by
  rcases hus with hp | ov
  · rw [stepX_plain hp] at h
    cases h
  · cases ov with
    | exp => rw [stepX_exp] at h; cases h
    | read _ => rw [stepX_read] at h; cases h
    | @need md =>
      rw [stepX_need] at h
      cases hi2 : ini s md with
      | error c => rw [hi2] at h; cases h
      | ok r =>
        obtain ⟨b, s2⟩ := r
        rw [hi2] at h
        cases b with
        | false =>
          cases h
          exact ⟨gb s md _ _ k C wf hi2 hE hC, rfl, left_gr (gi s md _ _ wf hi2).1⟩
        | true => cases h
    | @try_ md x _ =>
      rw [stepX_try] at h
      cases hi2 : ini s md with
      | error c => rw [hi2] at h; cases h
      | ok r =>
        obtain ⟨b, s2⟩ := r
        rw [hi2] at h
        cases b <;> cases h
    | fail =>
      rw [stepX_fail] at h
      cases h
      exact ⟨hE, rfl, Nat.le_refl _⟩
theorem addN_at {vss : List (List V)} {pos : Nat} {us : List V} (h : vss[pos]? = some us) : addN (vss.drop pos) = addN (vss.drop (pos + 1)) + addK us := by
  obtain ⟨hl, e⟩ := List.getElem?_eq_some_iff.mp h
  rw [List.drop_eq_getElem_cons hl, e]
  unfold addN addK
  rw [List.countP_cons]
theorem addN_on {vss : List (List V)} {pos d : Nat} (h : 1 ≤ d) : addN (vss.drop (pos + d)) ≤ addN (vss.drop (pos + 1)) := by
  have e : vss.drop (pos + d) = (vss.drop (pos + 1)).drop (d - 1) := by
    rw [List.drop_drop]
    congr 1
    omega
  rw [e]
  exact (List.drop_sublist _ _).countP_le
/-- a module's program: its own additions count -/
theorem exec_big {L : Lib} {ini : ScF} (gi : GoodI ini) (gb : GoodB L ini) {me : Option Str} {vss : List (List V)} (hv : ∀ us ∈ vss, PlainV us ∨ OtherV us) (ib : IntsB vss) {k C : Nat} : ∀ (f pos : Nat) {m m' : M4} {seen : List Str} {s s' : Sc} {b : Bool}, WfS s → (∀ n, me = some n → n ∈ keysA s.ex) → (∀ k ∈ seen, k ∈ keysA s.ex) →
    bigE (leftN L s + k + addN (vss.drop pos)) C s → bigM (leftN L s + k + addN (vss.drop pos)) C m → 10 ^ 30 * 2 ^ (leftN L s + k + addN (vss.drop pos)) ≤ C → execS ini me vss f pos m seen s = .ok (b, m', s') → bigE (leftN L s' + k) C s'
  | 0, pos, m, m', seen, s, s', b, _, _, _, hE, _, _, h => by
    cases h
    exact hE.mono (by omega)
  | f + 1, pos, m, m', seen, s, s', b, wf, hme, hs, hE, hM, hC, h => by
    rw [exec_succ] at h
    cases hp : vss[pos]? with
    | none =>
      rw [hp] at h
      cases h
      exact hE.mono (by omega)
    | some us =>
      rw [hp] at h
      dsimp only at h
      have hin := List.mem_of_getElem? hp
      rw [addN_at hp, ← Nat.add_assoc] at hE hM hC
      cases hx : stepX ini me us m seen s with
      | go d m2 seen2 s2 =>
        rw [hx] at h
        obtain ⟨d1, g, w, hs2⟩ := step_gr gi (hv us hin) wf hme hs hx
        have e1 : leftN L s + k + addN (vss.drop (pos + 1)) + addK us = leftN L s + (k + addN (vss.drop (pos + 1))) + addK us := by omega
        rw [e1] at hE hM hC
        obtain ⟨n1, n2, n3⟩ := step_big gi gb (hv us hin) (ib us hin) wf hE hM hC hx
        have on := addN_on (vss := vss) (pos := pos) d1
        exact exec_big gi gb hv ib f (pos + d) w (fun n e => g.ex n (hme n e)) hs2 (n1.mono (by omega)) (n2.mono (by omega)) (big_le hC (by omega)) h
      | halt m2 s2 =>
        rw [hx] at h
        cases h
        exact (halt_big gi gb (hv us hin) (k := k) wf (hE.mono (by omega)) (big_le hC (by omega)) hx).1
      | cyc c => rw [hx] at h; cases h
theorem init_big {L : Lib} (v : LibV L) : ∀ n, GoodB L (initS L n)
  | 0 => fun s md b s' k C _ h => by cases h
  | n + 1 => fun s md b s' k C wf h hE hC => by
    rw [init_succ] at h
    split at h
    · cases h
    rename_i hop
    cases hg : getA s.rs md with
    | some c =>
      rw [hg] at h
      cases h
      exact hE
    | none =>
      rw [hg] at h
      dsimp only at h
      have lr := progL_v v
      have hrs : md ∉ keysA s.rs := fun z => by
        obtain ⟨c, hc⟩ := getA_some z
        rw [hg] at hc
        cases hc
      cases hx : execS (initS L n) (some md) (vsP (progL L md)) ((progL L md).length + 1) 0 .zero [md] ⟨s.op ++ [md], s.rs, putA s.ex md []⟩ with
      | error c => rw [hx] at h; cases h
      | ok r =>
        obtain ⟨e, m2, s2⟩ := r
        rw [hx] at h
        cases h
        have wfB := wf_begin (md := md) wf
        have hmk : ∀ q, (some md : Option Str) = some q → q ∈ keysA (putA s.ex md ([] : Ints)) := fun q hq => by cases hq; exact putA_mem.mpr (.inl rfl)
        have sk : ∀ q ∈ [md], q ∈ keysA (putA s.ex md ([] : Ints)) := fun q hq => by rw [List.mem_singleton.mp hq]; exact hmk md rfl
        have grw : ∀ q, q ∈ s.op ∨ q ∈ keysA s.rs → q ∈ s.op ++ [md] ∨ q ∈ keysA s.rs := fun q hq => hq.imp (List.mem_append_left _) id
        have lb : leftN L ⟨s.op ++ [md], s.rs, putA s.ex md []⟩ + addN (vsP (progL L md)) ≤ leftN L s := by
          by_cases hm : md ∈ L.map (·.1)
          · obtain ⟨r, hr, rfl⟩ := List.mem_map.mp hm
            rw [progL_in v.nd hr]
            exact left_one (s := s) (s' := ⟨s.op ++ [r.1], s.rs, putA s.ex r.1 []⟩) grw (fun z => z.elim hop hrs) (.inl (List.mem_append_right _ (List.mem_singleton.mpr rfl))) hr
          · have ep : progL L md = [] := by
              unfold progL
              cases z : rowL L md with
              | none => rfl
              | some r => exact absurd (by rw [← (rowL_mem z).2]; exact List.mem_map_of_mem (rowL_mem z).1) hm
            rw [ep]
            exact left_mono (s := s) (s' := ⟨s.op ++ [md], s.rs, putA s.ex md []⟩) grw L
        have bB : bigE (leftN L s + k) C ⟨s.op ++ [md], s.rs, putA s.ex md []⟩ := fun r hr kv hk => by
          rcases putA_in hr with h1 | ⟨h1, _⟩
          · exact hE r h1 kv hk
          · rw [h1] at hk; exact nomatch hk
        have d0 : (vsP (progL L md)).drop 0 = vsP (progL L md) := List.drop_zero
        have z := exec_big (init_good lr n) (init_big v n) (vsP_or (lr.pv md)) (vsP_ints (lr.pv md)) (k := k) (C := C) _ _ wfB hmk sk (bB.mono (by rw [d0]; omega)) bigM_zero (big_le hC (by rw [d0]; omega)) hx
        obtain ⟨gr, w2⟩ := exec_gr (init_good lr n) (vsP_or (lr.pv md)) _ _ wfB hmk sk hx
        have eop : s2.op = s.op ++ [md] := gr.op
        have edl : s2.op.dropLast = s.op := by rw [eop]; exact List.dropLast_concat
        have lm : leftN L ⟨s2.op.dropLast, putA s2.rs md b, if b then s2.ex else putA s2.ex md []⟩ ≤ leftN L s2 := left_mono (s := s2) (s' := ⟨s2.op.dropLast, putA s2.rs md b, if b then s2.ex else putA s2.ex md []⟩) (fun q hq => by
          show q ∈ s2.op.dropLast ∨ q ∈ keysA (putA s2.rs md b)
          rw [edl]
          rcases hq with hq | hq
          · rw [eop] at hq
            rcases List.mem_append.mp hq with h1 | h1
            · exact .inl h1
            · exact .inr (putA_mem.mpr (.inl (List.mem_singleton.mp h1)))
          · exact .inr (putA_mem.mpr (.inr hq))) L
        intro r hr kv hk
        refine big_le ?_ (show _ ≤ leftN L s2 + k from Nat.add_le_add_right lm k)
        cases b with
        | true => exact z r hr kv hk
        | false =>
          rcases putA_in hr with h1 | ⟨h1, _⟩
          · exact z r h1 kv hk
          · rw [h1] at hk; exact nomatch hk
/-- a main program exports nothing: its own additions count for itself only -/
theorem exec_bigM {L : Lib} {ini : ScF} (gi : GoodI ini) (gb : GoodB L ini) {vss : List (List V)} (hv : ∀ us ∈ vss, PlainV us ∨ OtherV us) (ib : IntsB vss) {C R : Nat} : ∀ (f pos : Nat) {m m' : M4} {seen : List Str} {s s' : Sc} {b : Bool}, WfS s → (∀ k ∈ seen, k ∈ keysA s.ex) → addN (vss.drop pos) ≤ R →
    bigE (leftN L s) C s → bigM (addN (vss.drop pos)) (C * 2 ^ R) m → 10 ^ 30 * 2 ^ leftN L s ≤ C → execS ini none vss f pos m seen s = .ok (b, m', s') → bigE (leftN L s') C s' ∧ bigM 0 (C * 2 ^ R) m' ∧ leftN L s' ≤ leftN L s
  | 0, pos, m, m', seen, s, s', b, _, _, _, hE, hM, _, h => by
    cases h
    exact ⟨hE, hM.mono (Nat.zero_le _), Nat.le_refl _⟩
  | f + 1, pos, m, m', seen, s, s', b, wf, hs, hR, hE, hM, hC, h => by
    rw [exec_succ] at h
    have c1 : 10 ^ 30 ≤ C := by
      have := big_le hC (Nat.zero_le _)
      rw [Nat.pow_zero, Nat.mul_one] at this
      exact this
    cases hp : vss[pos]? with
    | none =>
      rw [hp] at h
      cases h
      exact ⟨hE, hM.mono (Nat.zero_le _), Nat.le_refl _⟩
    | some us =>
      rw [hp] at h
      dsimp only at h
      have hin := List.mem_of_getElem? hp
      have at_ := addN_at hp
      have low : ∀ {v e : Nat}, v ≤ C → e ≤ R → v * 2 ^ e ≤ C * 2 ^ R := fun h1 h2 => Nat.le_trans (Nat.mul_le_mul_right _ h1) (Nat.mul_le_mul_left _ (Nat.pow_le_pow_right (by decide) h2))
      cases hx : stepX ini none us m seen s with
      | go d m2 seen2 s2 =>
        rw [hx] at h
        obtain ⟨d1, g, w, hs2⟩ := step_gr gi (hv us hin) wf (by intro n e; cases e) hs hx
        have on := addN_on (vss := vss) (pos := pos) d1
        have le2 := left_gr (L := L) g
        have stepM : bigE (leftN L s2) C s2 ∧ bigM (addN (vss.drop (pos + 1))) (C * 2 ^ R) m2 := by
          rw [at_] at hM hR
          have hM0 := hM.mono (Nat.le_add_right _ (addK us))
          have cR : 10 ^ 30 * 2 ^ (addN (vss.drop (pos + 1)) + addK us) ≤ C * 2 ^ R := low c1 (by omega)
          rcases hv us hin with hpl | ov
          · rw [stepX_plain hpl] at hx
            cases hx
            exact ⟨hE, memo_big hpl (ib us hin) hM cR⟩
          · have nest : ∀ {md : Str} {b : Bool} {s3 : Sc}, ini s md = .ok (b, s3) → bigE (leftN L s3) C s3 := fun {md b s3} hi2 => gb s md b s3 0 C wf hi2 hE hC
            cases ov with
            | exp => rw [stepX_exp] at hx; cases hx; exact ⟨hE, hM0⟩
            | @read x md l _ =>
              rw [stepX_read] at hx
              cases hx
              refine ⟨hE, hM0.set _ (low ?_ (by omega))⟩
              have z := big_read (hE.mono (Nat.zero_le _)) (by rw [Nat.pow_zero, Nat.mul_one]; exact c1) seen md l
              rw [Nat.pow_zero, Nat.mul_one] at z
              exact z
            | @need md =>
              rw [stepX_need] at hx
              cases hi2 : ini s md with
              | error c => rw [hi2] at hx; cases hx
              | ok r =>
                obtain ⟨b, s3⟩ := r
                have n1 := nest hi2
                rw [hi2] at hx
                cases b with
                | false => cases hx
                | true => cases hx; exact ⟨n1, hM0⟩
            | @try_ md x _ =>
              rw [stepX_try] at hx
              cases hi2 : ini s md with
              | error c => rw [hi2] at hx; cases hx
              | ok r =>
                obtain ⟨b, s3⟩ := r
                have n1 := nest hi2
                rw [hi2] at hx
                cases b with
                | false => cases hx; exact ⟨n1, hM0.set _ (low (Nat.le_trans (by decide) c1) (by omega))⟩
                | true => cases hx; exact ⟨n1, hM0.set _ (low (Nat.le_trans (by decide) c1) (by omega))⟩
            | fail => rw [stepX_fail] at hx; cases hx
        obtain ⟨r1, r2, r3⟩ := exec_bigM gi gb hv ib f (pos + d) w hs2 (by omega) stepM.1 (stepM.2.mono (by omega)) (big_le hC le2) h
        exact ⟨r1, r2, Nat.le_trans r3 le2⟩
      | halt m2 s2 =>
        rw [hx] at h
        cases h
        obtain ⟨h1, h2, h3⟩ := halt_big gi gb (hv us hin) (k := 0) wf hE hC hx
        exact ⟨h1, by rw [h2]; exact hM.mono (Nat.zero_le _), h3⟩
      | cyc c => rw [hx] at h; cases h
theorem mains_big {L : Lib} (v : LibV L) {n C R : Nat} : ∀ {M : Lib} {s s' : Sc} {es : List MEnd}, (∀ r ∈ M, ProgV r.2) → (∀ r ∈ M, addN (vsP r.2) ≤ R) → WfS s → bigE (leftN L s) C s → 10 ^ 30 * 2 ^ leftN L s ≤ C → mainsS (initS L n) M s = some (es, s') → bigE (leftN L s') C s' ∧ ∀ e ∈ es, bigM 0 (C * 2 ^ R) e.2.2
  | [], s, s', es, _, _, _, hE, _, h => by
    cases h
    exact ⟨hE, fun e he => nomatch he⟩
  | r :: M, s, s', es, pv, ad, wf, hE, hC, h => by
    obtain ⟨b, m1, s2, es3, hx, hms2, rfl⟩ := mains_cons h
    have p1 := pv r List.mem_cons_self
    have po := vsP_or p1
    obtain ⟨_, w2⟩ := exec_gr (init_good (progL_v v) n) po _ _ wf (by intro z hz; cases hz) (by intro z hz; cases hz) hx
    obtain ⟨h1, h2, h3⟩ := exec_bigM (init_good (progL_v v) n) (init_big v n) po (vsP_ints p1) (R := R) _ _ wf (by intro z hz; cases hz) (by rw [List.drop_zero]; exact ad r List.mem_cons_self) hE bigM_zero hC hx
    obtain ⟨k1, k2⟩ := mains_big v (fun r hr => pv r (List.mem_cons_of_mem _ hr)) (fun r hr => ad r (List.mem_cons_of_mem _ hr)) w2 h1 (big_le hC h3) hms2
    refine ⟨k1, fun e he => ?_⟩
    rcases List.mem_cons.mp he with rfl | he
    · exact h2
    · exact k2 e he
/-! ### so the outcome is shown by few signs -/
theorem left_le {A : Nat} : ∀ {L : Lib}, (∀ r ∈ L, addN (vsP r.2) ≤ A) → ∀ s, leftN L s ≤ L.length * A
  | [], _, _ => Nat.zero_le _
  | r :: L, h, s => by
    have ih := left_le (fun r hr => h r (List.mem_cons_of_mem _ hr)) s
    have h0 := h r List.mem_cons_self
    unfold leftN at ih ⊢
    rw [List.map_cons, List.sum_cons, List.length_cons, Nat.add_mul, Nat.one_mul]
    split <;> omega
theorem nm_sz {x : Str} (h : isNameS x = true) : Sz 8 0 (.str x) := by
  unfold isNameS at h
  simp only [Bool.and_eq_true, decide_eq_true_eq] at h
  refine sz_str (by omega) fun c hc => ?_
  have y := List.all_eq_true.mp h.2 c (by simpa using hc)
  unfold isLow at y
  simp only [Bool.and_eq_true, decide_eq_true_eq] at y
  omega
theorem labP_name {p : Prog} (v : ProgV p) {l : Str} (h : l ∈ labP p) : isNameS l = true := by
  obtain ⟨us, hu, e⟩ := List.mem_filterMap.mp h
  obtain ⟨ds, hds, rfl⟩ := List.mem_map.mp hu
  obtain ⟨back, sv⟩ := step_vs (v.st ds hds)
  have hst := v.st ds hds
  rw [← back] at hst
  generalize ds.map dV = us at e hst
  match us, e, hst with
  | [.str z, .str a, .str b], e, hst =>
    have e : (if z = "export" then some a else none) = some l := e
    split at e
    · rename_i hz
      cases e
      subst hz
      rw [show ([V.str "export", V.str l, V.str b].map flD) = [.str "export", .str l, .str b] from rfl, isStep_eq sh_export, items2, it_name, it_var] at hst
      simp only [Bool.and_eq_true] at hst
      exact hst.2.1
    · cases e
structure Small (s : Sc) (es : List MEnd) : Prop where
  rn : ∀ n ∈ keysA s.rs, isNameS n = true
  r40 : s.rs.length ≤ 40
  xl : ∀ r ∈ s.ex, r.2.length ≤ 30 ∧ ∀ kv ∈ r.2, isNameS kv.1 = true ∧ kv.2.natAbs ≤ 10 ^ 70
  en : ∀ e ∈ es, isNameS e.1 = true ∧ bigM 0 (10 ^ 70) e.2.2
  e8 : es.length ≤ 8
theorem big0 {v C : Nat} (h : v * 2 ^ 0 ≤ C) : v ≤ C := by rw [Nat.pow_zero, Nat.mul_one] at h; exact h
theorem st_sz {b : Bool} {x y : Str} (hx : x.length ≤ 8 ∧ ∀ c ∈ x.cps.toList, c < 1000) (hy : y.length ≤ 8 ∧ ∀ c ∈ y.cps.toList, c < 1000) : Sz 8 0 (.str (if b then x else y)) := by
  cases b
  · exact sz_str hy.1 hy.2
  · exact sz_str hx.1 hx.2
theorem SzA.mono {b b' m m' : Nat} {ds : List PyData} (h : SzA b m ds) (hb : b ≤ b') (hm : m ≤ m') : SzA b' m' ds := ⟨h.sh, h.lf, Nat.le_trans h.bk hb, Nat.le_trans h.dp hm⟩
theorem mod_sz {s : Sc} {es : List MEnd} (k : Small s es) {n : Str} (hn : n ∈ keysA s.rs) : Sz 600 3 (modRow s n) := by
  unfold modRow rowMo
  have e0 : ∀ x ∈ (getA s.ex n).getD [], isNameS x.1 = true ∧ x.2.natAbs ≤ 10 ^ 70 := fun x hx => by
    cases z : getA s.ex n with
    | none => rw [z] at hx; exact nomatch hx
    | some e => rw [z] at hx; exact (k.xl _ (getA_mem z)).2 x hx
  have l0 : ((getA s.ex n).getD []).length ≤ 30 := by
    cases z : getA s.ex n with
    | none => exact Nat.zero_le _
    | some e => exact (k.xl _ (getA_mem z)).1
  generalize (getA s.ex n).getD [] = e at e0 l0
  have ex : Sz 570 2 (expD e) := by
    have al : ∀ d ∈ (srtS (keysA e)).map (prI e), Sz 18 1 d := fun d hd => by
      obtain ⟨l, hl, rfl⟩ := List.mem_map.mp hd
      have hl := (srtS_perm (keysA e)).mem_iff.mp hl
      obtain ⟨r, hr, rfl⟩ := List.mem_map.mp hl
      have hv : ((getA e r.1).getD 0).natAbs ≤ 10 ^ 70 := by
        cases z : getA e r.1 with
        | none => exact Nat.zero_le _
        | some v => exact (e0 _ (getA_mem z)).2
      unfold prI
      exact (sz_tuple (sza_cons (nm_sz (e0 r hr).1) (sza_cons (b := 0) (sz_int hv) (sza_nil (b := 0))))).mono (by decide) (by decide)
    refine (sz_tuple (sza_all al)).mono ?_ (by decide)
    rw [List.length_map, (srtS_perm (keysA e)).length_eq]
    unfold keysA
    rw [List.length_map]
    omega
  exact (sz_tuple (sza_cons ((nm_sz (k.rn n hn)).mono (b' := 8) (m' := 2) (by decide) (by decide)) (sza_cons ((st_sz (by decide +kernel) (by decide +kernel)).mono (b' := 8) (m' := 2) (by decide) (by decide)) (sza_cons ex (sza_nil (b := 0)))))).mono (by decide) (by decide)
theorem row_sz {s : Sc} {es : List MEnd} (k : Small s es) {e : MEnd} (he : e ∈ es) : Sz 40 2 (rowE e) := by
  obtain ⟨h1, h2⟩ := k.en e he
  obtain ⟨a, b, c, d⟩ := h2
  unfold rowE rowM stE M4.ints
  have i1 : ∀ {v : Int}, v.natAbs * 2 ^ 0 ≤ 10 ^ 70 → Sz 0 0 (.int v) := fun h => sz_int (big0 h)
  exact (sz_tuple (sza_cons ((nm_sz h1).mono (b' := 8) (m' := 1) (by decide) (by decide)) (sza_cons ((st_sz (by decide +kernel) (by decide +kernel)).mono (b' := 8) (m' := 1) (by decide) (by decide)) (sza_cons (sz_tuple (sza_cons (i1 a) (sza_cons (i1 b) (sza_cons (i1 c) (sza_cons (i1 d) (sza_nil (b := 0))))))) (sza_nil (b := 0)))))).mono (by decide) (by decide)
theorem out_sz {s : Sc} {es : List MEnd} (k : Small s es) : Sz 25000 5 (outD s es) := by
  unfold outD
  have m1 : Sz 24040 4 (.tuple (modsS s)) := by
    refine (sz_tuple (sza_all (b := 600) (m := 3) fun d hd => ?_)).mono ?_ (by decide)
    · unfold modsS at hd
      obtain ⟨n, hn, rfl⟩ := List.mem_map.mp hd
      exact mod_sz k ((srtS_perm _).mem_iff.mp hn)
    · unfold modsS
      rw [List.length_map, (srtS_perm _).length_eq]
      unfold keysA
      rw [List.length_map]
      have := k.r40
      omega
  have m2 : Sz 400 4 (.tuple (rowsS es)) := by
    have pm := List.mergeSort_perm (es.map rowE) (PySem.W.dataLe false id)
    refine (sz_tuple (sza_all (b := 40) (m := 2) fun d hd => ?_)).mono ?_ (by decide)
    · have hd := pm.mem_iff.mp hd
      obtain ⟨e, he, rfl⟩ := List.mem_map.mp hd
      exact row_sz k he
    · have := pm.length_eq
      unfold rowsS
      rw [this, List.length_map]
      have := k.e8
      omega
  exact (sz_tuple (sza_cons m1 (sza_cons m2 (sza_nil (b := 0))))).mono (by decide) (by decide)
theorem mains_names {ini : ScF} : ∀ {M : Lib} {s s' : Sc} {es : List MEnd}, mainsS ini M s = some (es, s') → es.map (·.1) = M.map (·.1)
  | [], s, s', es, h => by
    cases h
    rfl
  | r :: M, s, s', es, h => by
    obtain ⟨b, m, s1, es1, hx, h1, rfl⟩ := mains_cons h
    rw [List.map_cons, List.map_cons, mains_names h1]
/-- the outcome of a run is small -/
theorem small_of {L M : Lib} {labs : List Str} {n A R : Nat} {s : Sc} {es : List MEnd} (u : LibU labs L) (mv : MainsV L M) (hA : ∀ r ∈ L, addN (vsP r.2) ≤ A) (hR : ∀ r ∈ M, addN (vsP r.2) ≤ R) (le : 10 ^ 30 * 2 ^ (L.length * A) * 2 ^ R ≤ 10 ^ 70) (h : mainsS (initS L n) M s0S = some (es, s)) (nm : NmS (L.map (·.1)) labs s) : Small s es := by
  have v := u.v
  obtain ⟨wf, lb⟩ := mains_lb u.n.r mv.ok wf0 (lb0 L) h
  have x30 := ex30 u.n.r wf lb
  have ll := left_le hA s0S
  obtain ⟨b1, b2⟩ := mains_big v (C := 10 ^ 30 * 2 ^ (L.length * A)) (R := R) mv.ok hR wf0 (fun r hr => nomatch hr) (Nat.mul_le_mul_left _ (Nat.pow_le_pow_right (by decide) ll)) h
  have c70 : 10 ^ 30 * 2 ^ (L.length * A) ≤ 10 ^ 70 := Nat.le_trans (Nat.le_mul_of_pos_right _ (Nat.pow_pos (by decide))) le
  refine ⟨fun x hx => ?_, ?_, fun r hr => ⟨x30 r hr, fun kv hk => ⟨?_, ?_⟩⟩, fun e he => ⟨?_, ?_⟩, ?_⟩
  · obtain ⟨r, hr, e⟩ := List.mem_map.mp (nm.rs x hx)
    rw [← e]
    exact v.nm r hr
  · have z := len_sub wf.nr nm.rs
    unfold keysA at z
    rw [List.length_map, List.length_map] at z
    have := v.l40
    omega
  · exact labP_name (u.n.r.pv r.1) (lb r hr kv.1 (List.mem_map_of_mem hk))
  · exact Nat.le_trans (big0 (big_le (b1 r hr kv hk) (Nat.zero_le _))) c70
  · have z : e.1 ∈ es.map (·.1) := List.mem_map_of_mem he
    rw [mains_names h] at z
    obtain ⟨r, hr, e2⟩ := List.mem_map.mp z
    rw [← e2]
    exact mv.nm r hr
  · obtain ⟨a, b, c, d⟩ := b2 e he
    exact ⟨Nat.le_trans a le, Nat.le_trans b le, Nat.le_trans c le, Nat.le_trans d le⟩
  · have z := congrArg List.length (mains_names h)
    rw [List.length_map, List.length_map] at z
    have := mv.l8
    omega
end Cr
/-! what the laws over plain runs need: every run ends, its parts together (no evaluator) -/
namespace Cr
open PySem PySem.Spec PyProof.Rows L2 Evl
theorem drew_ex {H H1 H' : Hp} {p : Addr} (e : Ex H H1) (z : H p = none) (r : Drew p H1 H') : Ex H H' := fun c o h => r.at (ne_of_none h z) (e c o h)
theorem q_tAsg {te : TE} {i : Nat} {D : Ends} {σ : L2.St} {H : Hp} (h : te σ H fun v H1 => D.nx (σ.set i (some v)) H1) : tAsg te (gName i) D σ H := h
theorem q_par2 {ta tb : TE} {tz : TS} {D : Ends} {σ : L2.St} {H : Hp} {i j : Nat} (h : ta σ H fun v H1 => tb σ H1 fun w H2 => ∃ v' w', [v, w] = [v', w'] ∧ tz D ((σ.set i (some v')).set j (some w')) H2) : tSeq (tPar i j (tCons ta (tCons tb tNil))) tz D σ H := h
theorem run_all {L : Lib} {n : Nat} (ok : LibOk L) {ord : List Str} (on : Onward ord L) (hl : ord.length ≤ n) {M : Lib} (nd : (M.map (·.1)).Nodup) (h : ∀ r ∈ M, isNameS r.1 = true ∧ ProgV r.2 ∧ (∀ ds ∈ r.2, okMod (L.map (·.1)) ds = true) ∧ ∀ ds ∈ r.2, isExport (.tuple ds) = false) : ∃ es s, Run L n M es s := by
  have go : ∀ k, k ≤ M.length → ∃ es s, Run L n (M.take k) es s := by
    intro k
    induction k with
    | zero => exact fun _ => ⟨[], s0S, Run.nil L n⟩
    | succ k ih =>
      intro hk
      obtain ⟨es, s, r⟩ := ih (by omega)
      have hkl : k < M.length := hk
      have htk : M.take (k + 1) = M.take k ++ [M[k]] := List.take_succ_eq_append_getElem hkl
      have hin := List.getElem_mem hkl
      have nin : M[k].1 ∉ (M.take k).map (·.1) := fun z => by
        have e : M = M.take k ++ M[k] :: M.drop (k + 1) := by rw [← List.drop_eq_getElem_cons hkl]; exact (List.take_append_drop k M).symm
        have nd2 := nd
        rw [e, List.map_append, List.map_cons] at nd2
        exact (List.nodup_append.mp nd2).2.2 _ z _ List.mem_cons_self rfl
      obtain ⟨h1, h2, h3, h4⟩ := h _ hin
      obtain ⟨es', s', r', _⟩ := r.more ok on hl h1 nin h2 h3 h4
      exact ⟨es', s', by rw [htk]; exact r'⟩
  obtain ⟨es, s, r⟩ := go M.length (Nat.le_refl _)
  exact ⟨es, s, by rw [List.take_length] at r; exact r⟩
theorem plIn_of {C x Mn : Addr} {H : Hp} {kv : List (Key × V)} {L M : Lib} {n : Nat} {es : List MEnd} {s : Sc} (lbx : LbAt C H x (srtL L)) (hW : H Mn = some (.dK kv)) (hk : LKv H kv M) (run : Run L n M es s) (ok : LibOk L) (l8 : M.length ≤ 8) (ap : ∀ dx dd, H x = some (.ins C dx [("initializers", .ref dd)]) → dd ≠ Mn) : PlIn C H Mn x (srtL L) M (labsL (srtL L)) n es s := by
  have rS := run.srt ok.v
  exact ⟨⟨kv, mn_mk hW hk run.ok.ok lbx (srt_v ok.v) ap⟩, rS.ok.v l8, libU_of (srt_ok ok), rS.ms⟩
theorem add_len (p : Prog) : addN (vsP p) ≤ p.length := by
  unfold addN
  have := List.countP_le_length (p := isAdd) (l := vsP p)
  rw [vsP_len] at this
  exact this
end Cr
/-! plain runs (pure): what a module comes to does not hang on who asks first -/
namespace Cr
open PySem PySem.Spec PyProof.Rows L2 Evl
abbrev Res := Bool × Ints × List Str
abbrev EvF := Str → Option Res
inductive SC where
  | go (d : Nat) (m : M4) (seen : List Str) (e : Ints) (t : List Str)
  | halt (m : M4) (t : List Str)
  | stuck
def askC (o : Option Res) (y n : List Str → SC) : SC := match o with
  | none => .stuck
  | some (true, _, t) => y t
  | some (false, _, t) => n t
def readC (ev : EvF) (me : Option Str) (x md l : Str) (m : M4) (seen : List Str) (e : Ints) : SC :=
  if md ∈ seen then (if me = some md then .go 1 (m.set x ((getA e l).getD (-1))) seen e [] else match ev md with
    | none => .stuck
    | some r => .go 1 (m.set x ((getA r.2.1 l).getD (-1))) seen e []) else .go 1 (m.set x (-1)) seen e []
def expC (me : Option Str) (e : Ints) (l : Str) (i : Int) : Ints := match me with
  | some _ => putA e l i
  | none => e
def stepC (ev : EvF) (me : Option Str) (us : List V) (m : M4) (seen : List Str) (e : Ints) : SC :=
  match us with
  | [.str _] => .halt m []
  | [.str _, .str md] => askC (ev md) (fun t => .go 1 m (seen ++ [md]) e t) (fun t => .halt m t)
  | [.str z, .str a, .str b] => if z = "export" then .go 1 m seen (expC me e a (m.get b)) [] else if z = "try" then askC (ev a) (fun t => .go 1 (m.set b 1) (seen ++ [a]) e t) (fun t => .go 1 (m.set b 0) seen e t) else .go (goes us m) (memo us m) seen e []
  | [.str _, .str x, .str md, .str l] => readC ev me x md l m seen e
  | _ => .go (goes us m) (memo us m) seen e []
def addT (t : List Str) (o : Option (Bool × M4 × Ints × List Str)) : Option (Bool × M4 × Ints × List Str) := o.map fun r => (r.1, r.2.1, r.2.2.1, t ++ r.2.2.2)
def execC (ev : EvF) (me : Option Str) (vss : List (List V)) : Nat → Nat → M4 → List Str → Ints → Option (Bool × M4 × Ints × List Str)
  | 0, _, m, _, e => some (true, m, e, [])
  | f + 1, pos, m, seen, e => match vss[pos]? with
    | none => some (true, m, e, [])
    | some us => match stepC ev me us m seen e with
      | .go d m' seen' e' t => addT t (execC ev me vss f (pos + d) m' seen' e')
      | .halt m' t => some (false, m', e, t)
      | .stuck => none
def evC (L : Lib) : Nat → EvF
  | 0 => fun _ => none
  | k + 1 => fun md => (execC (evC L k) (some md) (vsP (progL L md)) ((progL L md).length + 1) 0 .zero [md] []).map fun r => (r.1, if r.1 then r.2.2.1 else [], r.2.2.2 ++ [md])
section
variable {ev : EvF} {me : Option Str} {m : M4} {seen : List Str} {e : Ints}
theorem stepC_need {z md : Str} : stepC ev me [.str z, .str md] m seen e = askC (ev md) (fun t => .go 1 m (seen ++ [md]) e t) (fun t => .halt m t) := rfl
theorem stepC_3 {z a b : Str} : stepC ev me [.str z, .str a, .str b] m seen e = if z = "export" then .go 1 m seen (expC me e a (m.get b)) [] else if z = "try" then askC (ev a) (fun t => .go 1 (m.set b 1) (seen ++ [a]) e t) (fun t => .go 1 (m.set b 0) seen e t) else .go (goes [.str z, .str a, .str b] m) (memo [.str z, .str a, .str b] m) seen e [] := rfl
theorem stepC_exp {a b : Str} : stepC ev me [.str "export", .str a, .str b] m seen e = .go 1 m seen (expC me e a (m.get b)) [] := by
  rw [stepC_3, if_pos rfl]
theorem stepC_try {a b : Str} : stepC ev me [.str "try", .str a, .str b] m seen e = askC (ev a) (fun t => .go 1 (m.set b 1) (seen ++ [a]) e t) (fun t => .go 1 (m.set b 0) seen e t) := by
  rw [stepC_3, if_neg (by decide +kernel), if_pos rfl]
theorem stepC_read {z x md l : Str} : stepC ev me [.str z, .str x, .str md, .str l] m seen e = readC ev me x md l m seen e := rfl
theorem stepC_plain {us : List V} (h : PlainV us) : stepC ev me us m seen e = .go (goes us m) (memo us m) seen e [] := by
  cases h with
  | set _ => rfl
  | skip _ _ => rfl
  | add _ _ =>
    rw [stepC_3, if_neg (by decide +kernel), if_neg (by decide +kernel)]
end
/-! ### more is known of more modules, never otherwise -/
def leE (a b : EvF) : Prop := ∀ md r, a md = some r → b md = some r
theorem ask_le {a b : EvF} (h : leE a b) {md : Str} {y n : List Str → SC} (ns : askC (a md) y n ≠ .stuck) : askC (b md) y n = askC (a md) y n := by
  cases z : a md with
  | none => rw [z] at ns; exact absurd rfl ns
  | some r => rw [h md r z]
theorem step_le {a b : EvF} (h : leE a b) {me : Option Str} {us : List V} (hus : PlainV us ∨ OtherV us) {m : M4} {seen : List Str} {e : Ints} (ns : stepC a me us m seen e ≠ .stuck) : stepC b me us m seen e = stepC a me us m seen e := by
  rcases hus with hp | ov
  · rw [stepC_plain hp, stepC_plain hp]
  · cases ov with
    | exp => rw [stepC_exp, stepC_exp]
    | read _ =>
      rw [stepC_read] at ns ⊢
      rw [stepC_read]
      unfold readC at ns ⊢
      split
      · rename_i hs
        rw [if_pos hs] at ns
        split
        · rfl
        · rename_i hm
          rw [if_neg hm] at ns
          rename_i x0 md0 l0 _
          cases z : a md0 with
          | none => rw [z] at ns; exact absurd rfl ns
          | some r => rw [h md0 r z]
      · rfl
    | need => rw [stepC_need] at ns ⊢; rw [stepC_need]; exact ask_le h ns
    | try_ _ => rw [stepC_try] at ns ⊢; rw [stepC_try]; exact ask_le h ns
    | fail => rfl
theorem exec_le {a b : EvF} (h : leE a b) {me : Option Str} {vss : List (List V)} (hv : ∀ us ∈ vss, PlainV us ∨ OtherV us) : ∀ (f pos : Nat) {m : M4} {seen : List Str} {e : Ints} {x : Bool × M4 × Ints × List Str}, execC a me vss f pos m seen e = some x → execC b me vss f pos m seen e = some x
  | 0, _, _, _, _, _, hx => hx
  | f + 1, pos, m, seen, e, x, hx => by
    unfold execC at hx ⊢
    cases hp : vss[pos]? with
    | none => rw [hp] at hx; exact hx
    | some us =>
      rw [hp] at hx
      dsimp only at hx ⊢
      have hus := hv us (List.mem_of_getElem? hp)
      cases hs : stepC a me us m seen e with
      | stuck => rw [hs] at hx; cases hx
      | halt m' t =>
        rw [step_le h hus (by rw [hs]; exact fun z => by cases z), hs]
        rw [hs] at hx
        exact hx
      | go d m' seen' e' t =>
        rw [step_le h hus (by rw [hs]; exact fun z => by cases z), hs]
        rw [hs] at hx
        dsimp only at hx ⊢
        unfold addT at hx ⊢
        obtain ⟨y, h1, h2⟩ := Option.map_eq_some_iff.mp hx
        rw [exec_le h hv f (pos + d) h1]
        exact congrArg some h2
theorem evC_le {L : Lib} (lr : LibR L) : ∀ k, leE (evC L k) (evC L (k + 1))
  | 0 => fun md r h => by cases h
  | k + 1 => fun md r h => by
    have ih := evC_le lr k
    unfold evC at h ⊢
    obtain ⟨y, h1, h2⟩ := Option.map_eq_some_iff.mp h
    rw [exec_le ih (vsP_or (lr.pv md)) _ _ h1]
    exact congrArg some h2
theorem evC_mono {L : Lib} (lr : LibR L) {k k' : Nat} (l : k ≤ k') : leE (evC L k) (evC L k') := by
  induction k' with
  | zero => rw [Nat.le_zero.mp l]; exact fun _ _ h => h
  | succ k' ih =>
    by_cases e : k = k' + 1
    · rw [e]; exact fun _ _ h => h
    · exact fun md r h => evC_le lr k' md r (ih (by omega) md r h)
end Cr
/-! plain runs (pure): every scene holds what modules come to by themselves -/
namespace Cr
open PySem PySem.Spec PyProof.Rows L2 Evl
structure Con (L : Lib) (s : Sc) : Prop where
  at_ : ∀ md b, getA s.rs md = some b → ∃ k t, evC L k md = some (b, (getA s.ex md).getD [], t) ∧ ∀ q ∈ t, q ∈ keysA s.rs
  op : ∀ q ∈ s.op, q ∉ keysA s.rs
def GoodC (L : Lib) (ini : ScF) : Prop := ∀ s md b s', WfS s → Con L s → ini s md = .ok (b, s') → Con L s' ∧ getA s'.rs md = some b ∧ (∀ q ∈ s.op, getA s'.ex q = getA s.ex q) ∧ ∃ k E t, evC L k md = some (b, E, t) ∧ ∀ q, q ∈ keysA s'.rs ↔ q ∈ keysA s.rs ∨ q ∈ t
theorem con_exp {L : Lib} {s : Sc} {me : Option Str} {l : Str} {i : Int} (c : Con L s) (hm : ∀ n, me = some n → n ∈ s.op) : Con L (expS s me l i) := by
  cases me with
  | none => exact c
  | some n =>
    refine ⟨fun md b h => ?_, c.op⟩
    have ne : md ≠ n := fun e => c.op n (hm n rfl) (by rw [← e]; exact getA_key.mp (by rw [show getA s.rs md = some b from h]; rfl))
    obtain ⟨k, t, h1, h2⟩ := c.at_ md b h
    refine ⟨k, t, ?_, h2⟩
    show evC L k md = some (b, (getA (putA s.ex n _) md).getD [], t)
    rw [getA_put, if_neg ne]
    exact h1
/-- where a program stands, and what it comes to by itself -/
structure SimR (L : Lib) (me : Option Str) (vss : List (List V)) (f pos : Nat) (m : M4) (seen : List Str) (e : Ints) (s : Sc) (b : Bool) (m' : M4) (s' : Sc) : Prop where
  ex : ∃ k e' t, execC (evC L k) me vss f pos m seen e = some (b, m', e', t) ∧ (∀ n, me = some n → getA s'.ex n = some e') ∧ ∀ q, q ∈ keysA s'.rs ↔ q ∈ keysA s.rs ∨ q ∈ t
  con : Con L s'
  oth : ∀ q ∈ s.op, me ≠ some q → getA s'.ex q = getA s.ex q
theorem exec_sim {L : Lib} (lr : LibR L) {ini : ScF} (gi : GoodI ini) (gc : GoodC L ini) {me : Option Str} {vss : List (List V)} (hv : ∀ us ∈ vss, PlainV us ∨ OtherV us) : ∀ (f pos : Nat) {m m' : M4} {seen : List Str} {s s' : Sc} {b : Bool} {e : Ints}, WfS s → Con L s → (∀ n, me = some n → n ∈ s.op ∧ getA s.ex n = some e) → (∀ q ∈ seen, me = some q ∨ q ∈ keysA s.rs) →
    execS ini me vss f pos m seen s = .ok (b, m', s') → SimR L me vss f pos m seen e s b m' s'
  | 0, pos, m, m', seen, s, s', b, e, wf, c, hm, hs, h => by
    cases h
    exact ⟨⟨0, e, [], rfl, fun n hn => (hm n hn).2, fun q => ⟨.inl, fun z => z.elim id (fun y => nomatch y)⟩⟩, c, fun _ _ _ => rfl⟩
  | f + 1, pos, m, m', seen, s, s', b, e, wf, c, hm, hs, h => by
    rw [exec_succ] at h
    cases hp : vss[pos]? with
    | none =>
      rw [hp] at h
      cases h
      refine ⟨⟨0, e, [], ?_, fun n hn => (hm n hn).2, fun q => ⟨.inl, fun z => z.elim id (fun y => nomatch y)⟩⟩, c, fun _ _ _ => rfl⟩
      unfold execC
      rw [hp]
    | some us =>
      rw [hp] at h
      dsimp only at h
      have hus := hv us (List.mem_of_getElem? hp)
      have hme : ∀ n, me = some n → n ∈ keysA s.ex := fun n hn => getA_key.mp (by rw [(hm n hn).2]; rfl)
      have hsx : ∀ q ∈ seen, q ∈ keysA s.ex := fun q hq => (hs q hq).elim (fun z => hme q z) (wf.rs q)
      -- one step on, and then the rest
      have on : ∀ {d : Nat} {m2 : M4} {seen2 : List Str} {s2 : Sc} {e2 : Ints} {t2 : List Str} {k2 : Nat}, stepX ini me us m seen s = .go d m2 seen2 s2 → (∀ k, k2 ≤ k → stepC (evC L k) me us m seen e = .go d m2 seen2 e2 t2) → Con L s2 → (∀ n, me = some n → getA s2.ex n = some e2) → (∀ q ∈ s.op, me ≠ some q → getA s2.ex q = getA s.ex q) → (∀ q ∈ seen2, me = some q ∨ q ∈ keysA s2.rs) → (∀ q, q ∈ keysA s2.rs ↔ q ∈ keysA s.rs ∨ q ∈ t2) → SimR L me vss (f + 1) pos m seen e s b m' s' := fun {d m2 seen2 s2 e2 t2 k2} hx hC c2 hm2 ho2 hs2 hr2 => by
        rw [hx] at h
        obtain ⟨_, g, w, _⟩ := step_gr gi hus wf hme hsx hx
        have r := exec_sim lr gi gc hv f (pos + d) (e := e2) w c2 (fun n hn => ⟨by rw [g.op]; exact (hm n hn).1, hm2 n hn⟩) hs2 h
        obtain ⟨k, e', t, h1, h2, h3⟩ := r.ex
        refine ⟨⟨max k k2, e', t2 ++ t, ?_, h2, fun q => ?_⟩, r.con, fun q hq hn => (r.oth q (by rw [g.op]; exact hq) hn).trans (ho2 q hq hn)⟩
        · unfold execC
          rw [hp]
          dsimp only
          rw [hC _ (Nat.le_max_right k k2)]
          dsimp only
          rw [exec_le (evC_mono lr (Nat.le_max_left k k2)) hv f (pos + d) h1]
          rfl
        · rw [h3 q, hr2 q, List.mem_append, or_assoc]
      have stay : ∀ q, q ∈ keysA s.rs ↔ q ∈ keysA s.rs ∨ q ∈ ([] : List Str) := fun q => ⟨.inl, fun z => z.elim id (fun y => nomatch y)⟩
      rcases hus with hpl | ov
      · exact on (k2 := 0) (stepX_plain hpl) (fun k _ => stepC_plain hpl) c (fun n hn => (hm n hn).2) (fun _ _ _ => rfl) hs stay
      · cases ov with
        | @exp n0 x0 =>
          refine on (k2 := 0) stepX_exp (fun k _ => stepC_exp) (con_exp c fun n hn => (hm n hn).1) (fun n hn => ?_) (fun q hq hn => ?_) ?_ ?_
          · subst hn
            show getA (putA s.ex n (putA ((getA s.ex n).getD []) n0 (m.get x0))) n = some (putA e n0 (m.get x0))
            rw [getA_put, if_pos rfl, (hm n rfl).2]
            rfl
          · cases me with
            | none => rfl
            | some n =>
              show getA (putA s.ex n _) q = _
              rw [getA_put, if_neg (fun e => hn (by rw [e]))]
          · cases me <;> exact hs
          · cases me <;> exact stay
        | @read x0 md0 l0 _ =>
          by_cases h1 : md0 ∈ seen
          · by_cases h2 : me = some md0
            · refine on (k2 := 0) stepX_read (fun k _ => ?_) c (fun n hn => (hm n hn).2) (fun _ _ _ => rfl) hs stay
              rw [stepC_read]
              unfold readC readV
              rw [if_pos h1, if_pos h2, if_pos h1, (hm md0 h2).2]
              rfl
            · have hk := (hs md0 h1).resolve_left h2
              obtain ⟨b0, hb0⟩ := getA_some hk
              obtain ⟨k0, t0, g1, _⟩ := c.at_ md0 b0 hb0
              obtain ⟨E0, hE0⟩ := getA_some (wf.rs md0 hk)
              refine on (k2 := k0) stepX_read (fun k hk2 => ?_) c (fun n hn => (hm n hn).2) (fun _ _ _ => rfl) hs stay
              rw [stepC_read]
              unfold readC readV
              rw [if_pos h1, if_neg h2, if_pos h1, evC_mono lr hk2 md0 _ g1, hE0]
              rfl
          · refine on (k2 := 0) stepX_read (fun k _ => ?_) c (fun n hn => (hm n hn).2) (fun _ _ _ => rfl) hs stay
            rw [stepC_read]
            unfold readC readV
            rw [if_neg h1, if_neg h1]
        | @need md0 =>
          cases hi : ini s md0 with
          | error c0 =>
            rw [stepX_need, hi] at h
            cases h
          | ok r =>
            obtain ⟨b0, s2⟩ := r
            obtain ⟨c2, g2, o2, k0, E0, t0, v0, r0⟩ := gc s md0 b0 s2 wf c hi
            have mk : md0 ∈ keysA s2.rs := getA_key.mp (by rw [g2]; rfl)
            cases b0 with
            | true =>
              refine on (k2 := k0) (by rw [stepX_need, hi]) (fun k hk => by rw [stepC_need, evC_mono lr hk md0 _ v0]; rfl) c2 (fun n hn => by rw [o2 n (hm n hn).1]; exact (hm n hn).2) (fun q hq _ => o2 q hq) (fun q hq => ?_) r0
              rcases List.mem_append.mp hq with h1 | h1
              · exact (hs q h1).imp id fun z => (r0 q).mpr (.inl z)
              · rw [List.mem_singleton.mp h1]; exact .inr mk
            | false =>
              rw [stepX_need, hi] at h
              cases h
              refine ⟨⟨k0, e, t0, ?_, fun n hn => by rw [o2 n (hm n hn).1]; exact (hm n hn).2, r0⟩, c2, fun q hq _ => o2 q hq⟩
              unfold execC
              rw [hp]
              dsimp only
              rw [stepC_need, v0]
              rfl
        | @try_ md0 x0 hx0 =>
          cases hi : ini s md0 with
          | error c0 =>
            rw [stepX_try, hi] at h
            cases h
          | ok r =>
            obtain ⟨b0, s2⟩ := r
            obtain ⟨c2, g2, o2, k0, E0, t0, v0, r0⟩ := gc s md0 b0 s2 wf c hi
            have mk : md0 ∈ keysA s2.rs := getA_key.mp (by rw [g2]; rfl)
            cases b0 with
            | true =>
              refine on (k2 := k0) (by rw [stepX_try, hi]) (fun k hk => by rw [stepC_try, evC_mono lr hk md0 _ v0]; rfl) c2 (fun n hn => by rw [o2 n (hm n hn).1]; exact (hm n hn).2) (fun q hq _ => o2 q hq) (fun q hq => ?_) r0
              rcases List.mem_append.mp hq with h1 | h1
              · exact (hs q h1).imp id fun z => (r0 q).mpr (.inl z)
              · rw [List.mem_singleton.mp h1]; exact .inr mk
            | false =>
              exact on (k2 := k0) (by rw [stepX_try, hi]) (fun k hk => by rw [stepC_try, evC_mono lr hk md0 _ v0]; rfl) c2 (fun n hn => by rw [o2 n (hm n hn).1]; exact (hm n hn).2) (fun q hq _ => o2 q hq) (fun q hq => (hs q hq).imp id fun z => (r0 q).mpr (.inl z)) r0
        | fail =>
          rw [stepX_fail] at h
          cases h
          refine ⟨⟨0, e, [], ?_, fun n hn => (hm n hn).2, stay⟩, c, fun _ _ _ => rfl⟩
          unfold execC
          rw [hp]
          rfl
end Cr
/-! plain runs (pure): the outcome in any order of the main programs -/
namespace Cr
open PySem PySem.Spec PyProof.Rows L2 Evl
theorem init_sim {L : Lib} (lr : LibR L) : ∀ n, GoodC L (initS L n)
  | 0 => fun s md b s' _ _ h => by cases h
  | n + 1 => fun s md b s' wf c h => by
    rw [init_succ] at h
    split at h
    · cases h
    rename_i hop
    cases hg : getA s.rs md with
    | some b0 =>
      rw [hg] at h
      cases h
      obtain ⟨k, t, h1, h2⟩ := c.at_ md b hg
      exact ⟨c, hg, fun _ _ => rfl, k, _, t, h1, fun q => ⟨.inl, fun z => z.elim id (h2 q)⟩⟩
    | none =>
      rw [hg] at h
      dsimp only at h
      have hrs : md ∉ keysA s.rs := fun z => by
        obtain ⟨b0, hb⟩ := getA_some z
        rw [hg] at hb
        cases hb
      cases hx : execS (initS L n) (some md) (vsP (progL L md)) ((progL L md).length + 1) 0 .zero [md] ⟨s.op ++ [md], s.rs, putA s.ex md []⟩ with
      | error c0 => rw [hx] at h; cases h
      | ok r =>
        obtain ⟨b0, m2, s2⟩ := r
        rw [hx] at h
        cases h
        have wfB := wf_begin (md := md) wf
        have hmk : ∀ q, (some md : Option Str) = some q → q ∈ keysA (putA s.ex md ([] : Ints)) := fun q hq => by cases hq; exact putA_mem.mpr (.inl rfl)
        obtain ⟨gr, w2⟩ := exec_gr (init_good lr n) (vsP_or (lr.pv md)) _ _ wfB hmk (fun q hq => by rw [List.mem_singleton.mp hq]; exact hmk md rfl) hx
        have c1 : Con L ⟨s.op ++ [md], s.rs, putA s.ex md []⟩ := by
          refine ⟨fun q b1 h1 => ?_, fun q hq => ?_⟩
          · have ne : q ≠ md := fun e => hrs (by rw [← e]; exact getA_key.mp (by rw [show getA s.rs q = some b1 from h1]; rfl))
            obtain ⟨k, t, g1, g2⟩ := c.at_ q b1 h1
            refine ⟨k, t, ?_, g2⟩
            show evC L k q = some (b1, (getA (putA s.ex md []) q).getD [], t)
            rw [getA_put, if_neg ne]
            exact g1
          · rcases List.mem_append.mp hq with h1 | h1
            · exact c.op q h1
            · rw [List.mem_singleton.mp h1]; exact hrs
        have sim := exec_sim lr (init_good lr n) (init_sim lr n) (vsP_or (lr.pv md)) _ _ (e := []) wfB c1 (fun q hq => by
          cases hq
          exact ⟨List.mem_append_right _ (List.mem_singleton.mpr rfl), by show getA (putA s.ex md []) md = some []; rw [getA_put, if_pos rfl]⟩) (fun q hq => .inl (by rw [List.mem_singleton.mp hq])) hx
        obtain ⟨k, e', t, h1, h2, h3⟩ := sim.ex
        have ev1 : evC L (k + 1) md = some (b, if b then e' else [], t ++ [md]) := by
          unfold evC
          rw [h1]
          rfl
        have hx2 := h2 md rfl
        have eop : s2.op = s.op ++ [md] := gr.op
        have edl : s2.op.dropLast = s.op := by rw [eop]; exact List.dropLast_concat
        have exO : ∀ q, q ≠ md → getA (if b then s2.ex else putA s2.ex md []) q = getA s2.ex q := fun q nq => by
          cases b with
          | true => rfl
          | false =>
            show getA (putA s2.ex md []) q = _
            rw [getA_put, if_neg nq]
        have exM : (getA (if b then s2.ex else putA s2.ex md []) md).getD [] = if b then e' else [] := by
          cases b with
          | true =>
            show (getA s2.ex md).getD [] = e'
            rw [hx2]
            rfl
          | false =>
            show (getA (putA s2.ex md []) md).getD [] = []
            rw [getA_put, if_pos rfl]
            rfl
        have keys : ∀ q, q ∈ keysA (putA s2.rs md b) ↔ q ∈ keysA s.rs ∨ q ∈ t ++ [md] := fun q => by
          have z : q ∈ keysA (putA s2.rs md b) ↔ q = md ∨ q ∈ keysA s2.rs := putA_mem
          rw [z, h3 q, List.mem_append, List.mem_singleton]
          constructor
          · rintro (z | z | z)
            · exact .inr (.inr z)
            · exact .inl z
            · exact .inr (.inl z)
          · rintro (z | z | z)
            · exact .inr (.inl z)
            · exact .inr (.inr z)
            · exact .inl z
        refine ⟨⟨fun q b1 g => ?_, fun q hq => ?_⟩, by show getA (putA s2.rs md b) md = some b; rw [getA_put, if_pos rfl], fun q hq => ?_, k + 1, _, _, ev1, keys⟩
        · have g : getA (putA s2.rs md b) q = some b1 := g
          show ∃ k t, evC L k q = some (b1, (getA (if b then s2.ex else putA s2.ex md []) q).getD [], t) ∧ ∀ x ∈ t, x ∈ keysA (putA s2.rs md b)
          rw [getA_put] at g
          by_cases e : q = md
          · rw [if_pos e] at g
            cases g
            rw [e, exM]
            exact ⟨k + 1, _, ev1, fun x hx => (keys x).mpr (.inr hx)⟩
          · rw [if_neg e] at g
            obtain ⟨k1, t1, g1, g2⟩ := sim.con.at_ q b1 g
            rw [exO q e]
            exact ⟨k1, t1, g1, fun x hx => putA_mem.mpr (.inr (g2 x hx))⟩
        · have hq : q ∈ s2.op.dropLast := hq
          rw [edl] at hq
          intro z
          have z : q ∈ keysA (putA s2.rs md b) := z
          rcases putA_mem.mp z with z | z
          · exact hop (by rw [← z]; exact hq)
          · exact sim.con.op q (by rw [eop]; exact List.mem_append_left _ hq) z
        · have nq : q ≠ md := fun e => hop (by rw [← e]; exact hq)
          show getA (if b then s2.ex else putA s2.ex md []) q = getA s.ex q
          rw [exO q nq, sim.oth q (List.mem_append_left _ hq) (fun e => nq (Option.some.inj e).symm)]
          show getA (putA s.ex md []) q = _
          rw [getA_put, if_neg nq]
/-- what a main program comes to by itself -/
def MainAt (L : Lib) (p : Prog) (b : Bool) (m : M4) (t : List Str) : Prop := ∃ k e, execC (evC L k) none (vsP p) ((vsP p).length + 1) 0 .zero [] [] = some (b, m, e, t)
theorem main_one {L : Lib} (lr : LibR L) {p : Prog} (pv : ProgV p) {b b' : Bool} {m m' : M4} {t t' : List Str} (h : MainAt L p b m t) (h' : MainAt L p b' m' t') : b = b' ∧ m = m' ∧ t = t' := by
  obtain ⟨k, e, h⟩ := h
  obtain ⟨k', e', h'⟩ := h'
  have z := exec_le (evC_mono lr (Nat.le_max_left k k')) (vsP_or pv) _ _ h
  have z' := exec_le (evC_mono lr (Nat.le_max_right k k')) (vsP_or pv) _ _ h'
  rw [z] at z'
  have z' := Option.some.inj z'
  cases z'
  exact ⟨rfl, rfl, rfl⟩
theorem mod_one {L : Lib} (lr : LibR L) {md : Str} {k k' : Nat} {r r' : Res} (h : evC L k md = some r) (h' : evC L k' md = some r') : r = r' := by
  have z := evC_mono lr (Nat.le_max_left k k') md r h
  have z' := evC_mono lr (Nat.le_max_right k k') md r' h'
  rw [z] at z'
  exact Option.some.inj z'
theorem mains_sim {L : Lib} (lr : LibR L) {n : Nat} : ∀ {M : Lib} {s s' : Sc} {es : List MEnd}, (∀ r ∈ M, ProgV r.2) → WfS s → Con L s → mainsS (initS L n) M s = some (es, s') →
    Con L s' ∧ (∀ q ∈ keysA s.rs, q ∈ keysA s'.rs) ∧ (∀ r ∈ M, ∃ b m t, MainAt L r.2 b m t ∧ (r.1, b, m) ∈ es ∧ ∀ q ∈ t, q ∈ keysA s'.rs) ∧ (∀ e ∈ es, ∃ r ∈ M, r.1 = e.1 ∧ ∃ t, MainAt L r.2 e.2.1 e.2.2 t) ∧ ∀ q ∈ keysA s'.rs, q ∈ keysA s.rs ∨ ∃ r ∈ M, ∃ b m t, MainAt L r.2 b m t ∧ q ∈ t
  | [], s, s', es, _, _, c, h => by
    cases h
    exact ⟨c, (fun _ h => h), (fun r hr => nomatch hr), (fun e he => nomatch he), (fun q hq => .inl hq)⟩
  | r :: M, s, s', es, pv, wf, c, h => by
    obtain ⟨b, m1, s2, es3, hx, hms2, rfl⟩ := mains_cons h
    have po := vsP_or (pv r List.mem_cons_self)
    obtain ⟨gr, w2⟩ := exec_gr (init_good lr n) po _ _ wf (by intro z hz; cases hz) (by intro z hz; cases hz) hx
    have sim := exec_sim lr (init_good lr n) (init_sim lr n) po _ _ (e := []) wf c (by intro z hz; cases hz) (by intro z hz; cases hz) hx
    obtain ⟨k, e', t, h1, _, h3⟩ := sim.ex
    have ma : MainAt L r.2 b m1 t := ⟨k, e', h1⟩
    obtain ⟨g1, g2, g3, g4, g5⟩ := mains_sim lr (fun r hr => pv r (List.mem_cons_of_mem _ hr)) w2 sim.con hms2
    refine ⟨g1, fun q hq => g2 q ((h3 q).mpr (.inl hq)), fun r' hr' => ?_, fun e he => ?_, fun q hq => ?_⟩
    · rcases List.mem_cons.mp hr' with rfl | hr'
      · exact ⟨b, m1, t, ma, List.mem_cons_self, fun q hq => g2 q ((h3 q).mpr (.inr hq))⟩
      · obtain ⟨b', m', t', a1, a2, a3⟩ := g3 r' hr'
        exact ⟨b', m', t', a1, List.mem_cons_of_mem _ a2, a3⟩
    · rcases List.mem_cons.mp he with rfl | he
      · exact ⟨r, List.mem_cons_self, rfl, t, ma⟩
      · obtain ⟨r', a1, a2⟩ := g4 e he
        exact ⟨r', List.mem_cons_of_mem _ a1, a2⟩
    · rcases g5 q hq with z | ⟨r', a1, a2⟩
      · rcases (h3 q).mp z with z | z
        · exact .inl z
        · exact .inr ⟨r, List.mem_cons_self, b, m1, t, ma, z⟩
      · exact .inr ⟨r', List.mem_cons_of_mem _ a1, a2⟩
theorem con0 (L : Lib) : Con L s0S := ⟨(fun md b h => by cases h), (fun q h => nomatch h)⟩
/-- two scenes show a module alike -/
theorem con_row {L : Lib} (lr : LibR L) {s s' : Sc} (c : Con L s) (c' : Con L s') {md : Str} (h : md ∈ keysA s.rs) (h' : md ∈ keysA s'.rs) : modRow s md = modRow s' md := by
  obtain ⟨b, hb⟩ := getA_some h
  obtain ⟨b', hb'⟩ := getA_some h'
  obtain ⟨k, t, h1, _⟩ := c.at_ md b hb
  obtain ⟨k', t', h1', _⟩ := c'.at_ md b' hb'
  have z := mod_one lr h1 h1'
  unfold modRow
  injection z with z1 z2
  injection z2 with z2 z3
  rw [hb, hb', z1, z2]
end Cr
/-! plain runs (pure): two runs over the same main programs show the same -/
namespace Cr
open PySem PySem.Spec PyProof.Rows L2 Evl
theorem rows_same {es es' : List MEnd} (nd : (es.map (·.1)).Nodup) (nd' : (es'.map (·.1)).Nodup) (p : es.Perm es') : rowsS es = rowsS es' := by
  have pm := List.mergeSort_perm es (fun a b : MEnd => leS a.1 b.1)
  have pw : (es.mergeSort (fun a b : MEnd => leS a.1 b.1)).Pairwise (fun a b => leS a.1 b.1 = true) := List.pairwise_mergeSort (fun a b c => leS_trans a.1 b.1 c.1) (fun a b => leS_total a.1 b.1) es
  have nd2 : ((es.mergeSort (fun a b : MEnd => leS a.1 b.1)).map (·.1)).Nodup := (pm.map _).nodup_iff.mpr nd
  have st : ((es.mergeSort (fun a b : MEnd => leS a.1 b.1)).map (·.1)).Pairwise ltS := by
    rw [List.pairwise_map]
    have a := List.pairwise_map.mp nd2
    exact (pw.and a).imp fun h => leS_ltS h.1 h.2
  have one : ∀ {l : List MEnd}, (l.map (·.1)).Nodup → (es.mergeSort (fun a b : MEnd => leS a.1 b.1)).Perm l → rowsS l = (es.mergeSort (fun a b : MEnd => leS a.1 b.1)).map rowE := fun {l} n q => sort_by_key (f := rowE) (key := fun e : MEnd => e.1) (rest := fun e => [.str (stE e.2.1), .tuple e.2.2.ints]) (fun _ => rfl) n q st
  rw [one nd pm, one nd' (pm.trans p)]
theorem nodup_of_map {α β : Type} {f : α → β} : ∀ {l : List α}, (l.map f).Nodup → l.Nodup
  | [], _ => List.nodup_nil
  | a :: l, h => by
    rw [List.map_cons, List.nodup_cons] at h
    exact List.nodup_cons.mpr ⟨fun z => h.1 (List.mem_map_of_mem z), nodup_of_map h.2⟩
structure TwoR (L M M' : Lib) (es es' : List MEnd) (s s' : Sc) : Prop where
  rows : ∀ e ∈ es, e ∈ es'
  mods : ∀ q ∈ keysA s.rs, q ∈ keysA s'.rs ∧ modRow s q = modRow s' q
/-- what fewer main programs come to is among what more come to -/
theorem two_runs {L M M' : Lib} (lr : LibR L) {n n' : Nat} {es es' : List MEnd} {s s' : Sc} (pv : ∀ r ∈ M, ProgV r.2) (pv' : ∀ r ∈ M', ProgV r.2) (h : mainsS (initS L n) M s0S = some (es, s)) (h' : mainsS (initS L n') M' s0S = some (es', s')) (sub : ∀ r ∈ M, r ∈ M') : TwoR L M M' es es' s s' := by
  obtain ⟨c, _, a3, a4, a5⟩ := mains_sim lr pv wf0 (con0 L) h
  obtain ⟨c', _, b3, b4, b5⟩ := mains_sim lr pv' wf0 (con0 L) h'
  have km : ∀ q ∈ keysA s.rs, q ∈ keysA s'.rs := fun q hq => by
    rcases a5 q hq with z | ⟨r, hr, b, m, t, ma, qt⟩
    · exact nomatch z
    · obtain ⟨b', m', t', ma', _, qs⟩ := b3 r (sub r hr)
      obtain ⟨_, _, rfl⟩ := main_one lr (pv r hr) ma ma'
      exact qs q qt
  refine ⟨fun e he => ?_, fun q hq => ⟨km q hq, con_row lr c c' hq (km q hq)⟩⟩
  obtain ⟨r, hr, e1, t, ma⟩ := a4 e he
  obtain ⟨b', m', t', ma', hin, _⟩ := b3 r (sub r hr)
  obtain ⟨rfl, rfl, _⟩ := main_one lr (pv r hr) ma ma'
  have : e = (r.1, e.2.1, e.2.2) := by rw [e1]
  rw [this]
  exact hin
theorem out_same {L M M' : Lib} (lr : LibR L) {n n' : Nat} {es es' : List MEnd} {s s' : Sc} (pv : ∀ r ∈ M, ProgV r.2) (pv' : ∀ r ∈ M', ProgV r.2) (nd : (M.map (·.1)).Nodup) (nd' : (M'.map (·.1)).Nodup) (h : mainsS (initS L n) M s0S = some (es, s)) (h' : mainsS (initS L n') M' s0S = some (es', s')) (wf : WfS s) (wf' : WfS s') (same : ∀ r, r ∈ M ↔ r ∈ M') : outD s es = outD s' es' := by
  have t1 := two_runs lr pv pv' h h' fun r hr => (same r).mp hr
  have t2 := two_runs lr pv' pv h' h fun r hr => (same r).mpr hr
  have n1 : (es.map (·.1)).Nodup := by rw [mains_names h]; exact nd
  have n2 : (es'.map (·.1)).Nodup := by rw [mains_names h']; exact nd'
  have p : es.Perm es' := (List.perm_ext_iff_of_nodup (nodup_of_map n1) (nodup_of_map n2)).mpr fun e => ⟨t1.rows e, t2.rows e⟩
  have keys : srtS (keysA s.rs) = srtS (keysA s'.rs) := up_same (srtS_lt wf.nr) (srtS_lt wf'.nr) fun q => by
    rw [(srtS_perm _).mem_iff, (srtS_perm _).mem_iff]
    exact ⟨fun z => (t1.mods q z).1, fun z => (t2.mods q z).1⟩
  have mods : modsS s = modsS s' := by
    unfold modsS
    rw [← keys]
    exact List.map_congr_left fun q hq => (t1.mods q ((srtS_perm _).mem_iff.mp hq)).2
  unfold outD
  rw [mods, rows_same n1 n2 p]
end Cr
/-! plain runs (pure): main programs one by one, and all together -/
namespace Cr
open PySem PySem.Spec PyProof.Rows L2 Evl
/-- a module of the whole run is one that a main program alone starts -/
theorem cover {L M : Lib} (lr : LibR L) {n n' : Nat} {es : List MEnd} {s : Sc} (pv : ∀ r ∈ M, ProgV r.2) (h : mainsS (initS L n) M s0S = some (es, s)) {q : Str} (hq : q ∈ keysA s.rs) : ∃ r ∈ M, ∀ es1 s1, mainsS (initS L n') [r] s0S = some (es1, s1) → q ∈ keysA s1.rs := by
  obtain ⟨_, _, _, _, a5⟩ := mains_sim lr pv wf0 (con0 L) h
  rcases a5 q hq with z | ⟨r, hr, b, m, t, ma, qt⟩
  · exact nomatch z
  · refine ⟨r, hr, fun es1 s1 h1 => ?_⟩
    obtain ⟨_, _, b3, _, _⟩ := mains_sim lr (M := [r]) (fun r' hr' => by rw [List.mem_singleton.mp hr']; exact pv r hr) wf0 (con0 L) h1
    obtain ⟨b', m', t', ma', _, qs⟩ := b3 r List.mem_cons_self
    obtain ⟨_, _, rfl⟩ := main_one lr (pv r hr) ma ma'
    exact qs q qt
/-- the rows of modules, found in any order, sorted -/
theorem parts_sorted {s : Sc} (wf : WfS s) {ks : List Str} (nd : ks.Nodup) (h : ∀ q, q ∈ ks ↔ q ∈ keysA s.rs) : (ks.map (modRow s)).mergeSort (PySem.W.dataLe false id) = modsS s := by
  have n2 : (srtS (keysA s.rs)).Nodup := (srtS_perm _).nodup_iff.mpr wf.nr
  refine sort_by_key (f := modRow s) (key := fun q : Str => q) (rest := fun q => [.str (if (getA s.rs q).getD false then "ready" else "failed"), expD ((getA s.ex q).getD [])]) (fun _ => rfl) (by rw [List.map_id']; exact nd) ((List.perm_ext_iff_of_nodup n2 nd).mpr fun q => ?_) (by rw [List.map_id']; exact srtS_lt wf.nr)
  rw [(srtS_perm _).mem_iff, h q]
/-- one main program alone: its row, its modules' rows -/
theorem single {L M : Lib} (lr : LibR L) {n n' : Nat} {es es1 : List MEnd} {s s1 : Sc} (pv : ∀ r ∈ M, ProgV r.2) (h : mainsS (initS L n) M s0S = some (es, s)) {r : Str × Prog} (hr : r ∈ M) (h1 : mainsS (initS L n') [r] s0S = some (es1, s1)) :
    ∃ e, es1 = [e] ∧ e ∈ es ∧ ∀ q ∈ keysA s1.rs, q ∈ keysA s.rs ∧ modRow s1 q = modRow s q := by
  have t := two_runs lr (M := [r]) (fun r' hr' => by rw [List.mem_singleton.mp hr']; exact pv r hr) pv h1 h fun r' hr' => by rw [List.mem_singleton.mp hr']; exact hr
  obtain ⟨b, m, s2, es3, _, h2, rfl⟩ := mains_cons h1
  cases h2
  exact ⟨_, rfl, t.rows _ List.mem_cons_self, t.mods⟩
end Cr
/-! k55 (pure): rows of modules told apart by their names -/
namespace Cr
open PySem PySem.Spec PyProof.Rows L2 Evl
theorem canLay_all {ds : List PyData} (h : ∀ d ∈ ds, d.canLay0 = true) : PyData.canLayAll0 ds = true := by
  induction ds with
  | nil => rfl
  | cons d ds ih =>
    rw [PyData.canLayAll0, h d List.mem_cons_self, ih fun e he => h e (List.mem_cons_of_mem _ he)]
    rfl
theorem exp_lay {e : Ints} (h : ∀ kv ∈ e, isNameS kv.1 = true) : (expD e).canLay0 = true := by
  unfold expD
  rw [PyData.canLay0]
  refine canLay_all fun d hd => ?_
  obtain ⟨l, hl, rfl⟩ := List.mem_map.mp hd
  obtain ⟨kv, hk, rfl⟩ := List.mem_map.mp ((srtS_perm _).mem_iff.mp hl)
  unfold prI
  simp [PyData.canLay0, PyData.canLayAll0, name_strOk (h kv hk)]
theorem mod_lay {s : Sc} {es : List MEnd} (k : Small s es) {q : Str} (hq : q ∈ keysA s.rs) : (modRow s q).canLay0 = true := by
  unfold modRow rowMo
  rw [PyData.canLay0]
  refine canLay_all fun d hd => ?_
  simp only [List.mem_cons, List.not_mem_nil, or_false] at hd
  rcases hd with rfl | rfl | rfl
  · rw [PyData.canLay0, name_strOk (k.rn q hq)]
  · cases (getA s.rs q).getD false <;> decide +kernel
  · cases h : getA s.ex q with
    | none => exact exp_lay fun kv hk => nomatch hk
    | some e => exact exp_lay fun kv hk => ((k.xl (q, e) (getA_mem h)).2 kv hk).1
theorem row_lay {s : Sc} {es : List MEnd} (k : Small s es) {e : MEnd} (he : e ∈ es) : (rowE e).canLay0 = true := by
  have st : PyData.strOk (stE e.2.1) = true := by cases e.2.1 <;> decide +kernel
  unfold rowE rowM M4.ints
  simp [PyData.canLay0, PyData.canLayAll0, name_strOk (k.en e he).1, st]
theorem depthAll_le {n : Nat} {ds : List PyData} (h : ∀ d ∈ ds, d.depth ≤ n) : PyData.depthAll ds ≤ n := by
  induction ds with
  | nil => rw [PyData.depthAll]; exact Nat.zero_le _
  | cons d ds ih =>
    rw [PyData.depthAll]
    have := h d List.mem_cons_self
    have := ih fun e he => h e (List.mem_cons_of_mem _ he)
    omega
theorem mod_depth (s : Sc) (q : Str) : (modRow s q).depth ≤ 3 := by
  unfold modRow rowMo
  rw [PyData.depth]
  have : PyData.depthAll [.str q, .str (if (getA s.rs q).getD false then "ready" else "failed"), expD ((getA s.ex q).getD [])] ≤ 2 := depthAll_le fun d hd => by
    simp only [List.mem_cons, List.not_mem_nil, or_false] at hd
    rcases hd with rfl | rfl | rfl
    · rw [PyData.depth]; omega
    · rw [PyData.depth]; omega
    · unfold expD
      rw [PyData.depth]
      have : PyData.depthAll ((srtS (keysA ((getA s.ex q).getD []))).map (prI ((getA s.ex q).getD []))) ≤ 1 := depthAll_le fun d hd => by
        obtain ⟨l, _, rfl⟩ := List.mem_map.mp hd
        unfold prI
        simp [PyData.depth, PyData.depthAll]
      omega
  omega
theorem row_depth (e : MEnd) : (rowE e).depth ≤ 3 := by
  unfold rowE rowM M4.ints
  simp [PyData.depth, PyData.depthAll]
theorem mod_sha {s : Sc} {es : List MEnd} (k : Small s es) {q : Str} (hq : q ∈ keysA s.rs) : SeqAt.shaped (modRow s q) = true := by
  unfold SeqAt.shaped
  rw [mod_lay k hq, decide_eq_true (Nat.le_trans (mod_depth s q) (by decide))]
  rfl
theorem row_sha {s : Sc} {es : List MEnd} (k : Small s es) {e : MEnd} (he : e ∈ es) : SeqAt.shaped (rowE e) = true := by
  unfold SeqAt.shaped
  rw [row_lay k he, decide_eq_true (Nat.le_trans (row_depth e) (by decide))]
  rfl
theorem sha_tup {ds : List PyData} (h : ∀ d ∈ ds, d.canLay0 = true ∧ d.depth ≤ 10) : SeqAt.shaped (.tuple ds) = true := by
  unfold SeqAt.shaped
  have e : (PyData.tuple ds).canLay0 = true := by rw [PyData.canLay0]; exact canLay_all fun d hd => (h d hd).1
  have : PyData.depthAll ds ≤ 10 := depthAll_le fun d hd => (h d hd).2
  rw [e, PyData.depth, decide_eq_true (by omega)]
  rfl
theorem sha_lst {ds : List PyData} (h : ∀ d ∈ ds, d.canLay0 = true ∧ d.depth ≤ 10) : SeqAt.shaped (.list ds) = true := by
  unfold SeqAt.shaped
  have e : (PyData.list ds).canLay0 = true := by rw [PyData.canLay0]; exact canLay_all fun d hd => (h d hd).1
  have : PyData.depthAll ds ≤ 10 := depthAll_le fun d hd => (h d hd).2
  rw [e, PyData.depth, decide_eq_true (by omega)]
  rfl
theorem rows_mem {es : List MEnd} {d : PyData} (h : d ∈ rowsS es) : ∃ e ∈ es, d = rowE e := by
  unfold rowsS at h
  obtain ⟨e, he, rfl⟩ := List.mem_map.mp ((List.mergeSort_perm _ _).mem_iff.mp h)
  exact ⟨e, he, rfl⟩
theorem mem_rows {es : List MEnd} {e : MEnd} (h : e ∈ es) : rowE e ∈ rowsS es := by
  unfold rowsS
  exact (List.mergeSort_perm _ _).mem_iff.mpr (List.mem_map_of_mem h)
theorem mods_mem {s : Sc} {d : PyData} (h : d ∈ modsS s) : ∃ q ∈ keysA s.rs, d = modRow s q := by
  unfold modsS at h
  obtain ⟨q, hq, rfl⟩ := List.mem_map.mp h
  exact ⟨q, (srtS_perm _).mem_iff.mp hq, rfl⟩
theorem rows_sha {s : Sc} {es : List MEnd} (k : Small s es) : SeqAt.shaped (.tuple (rowsS es)) = true := sha_tup fun d hd => by
  obtain ⟨e, he, rfl⟩ := rows_mem hd
  exact ⟨row_lay k he, Nat.le_trans (row_depth e) (by decide)⟩
theorem mods_sha {s : Sc} {es : List MEnd} (k : Small s es) : SeqAt.shaped (.tuple (modsS s)) = true := sha_tup fun d hd => by
  obtain ⟨q, hq, rfl⟩ := mods_mem hd
  exact ⟨mod_lay k hq, Nat.le_trans (mod_depth s q) (by decide)⟩
theorem any_self {ds : List PyData} {d : PyData} (l : d.canLay0 = true) (h : d ∈ ds) : (ds.any fun z => PyData.eqv z d) = true := List.any_eq_true.mpr ⟨d, h, SeqAt.eqv_refl d l⟩
theorem eqv_mod {s : Sc} {es : List MEnd} (k : Small s es) (q : Str) {r : Str} (hr : r ∈ keysA s.rs) : PyData.eqv (modRow s q) (modRow s r) = decide (q = r) := by
  by_cases h : q = r
  · rw [h, SeqAt.eqv_refl _ (mod_lay k hr), decide_eq_true rfl]
  · rw [decide_eq_false h]
    unfold modRow rowMo
    rw [PyData.eqv, PyData.eqvAll, PyData.eqv]
    rw [show (q == r) = false from beq_eq_false_iff_ne.mpr h]
    rfl
theorem any_mod {s : Sc} {es : List MEnd} (k : Small s es) (ks : List Str) {q : Str} (hq : q ∈ keysA s.rs) : ((ks.map (modRow s)).any fun z => PyData.eqv z (modRow s q)) = decide (q ∈ ks) := by
  rw [List.any_map]
  by_cases h : q ∈ ks
  · rw [decide_eq_true h, List.any_eq_true]
    exact ⟨q, h, by show PyData.eqv _ _ = true; rw [eqv_mod k q hq, decide_eq_true rfl]⟩
  · rw [decide_eq_false h, List.any_eq_false]
    intro r hr
    show ¬ PyData.eqv _ _ = true
    rw [eqv_mod k r hq, decide_eq_false (fun e => h (by rw [← e]; exact hr))]
    exact Bool.false_ne_true
theorem mods_alike (s : Sc) (ks : List Str) : PySem.W.AllAlike (ks.map (modRow s)) := PySem.W.AllAlike.of fun q r => by
  have pr : ∀ (e f : Ints) (xs ys : List Str), PySem.W.alikeAll (xs.map (prI e)) (ys.map (prI f)) = true := fun e f xs => by
    induction xs with
    | nil => intro ys; rw [List.map_nil, PySem.W.alikeAll]
    | cons x xs ih =>
      intro ys
      cases ys with
      | nil => rw [List.map_nil, List.map_cons, PySem.W.alikeAll]
      | cons y ys =>
        rw [List.map_cons, List.map_cons, PySem.W.alikeAll, ih ys]
        unfold prI
        simp [PySem.W.alike, PySem.W.alikeAll]
  unfold modRow rowMo expD
  simp [PySem.W.alike, PySem.W.alikeAll, pr]
theorem mods_sortable (s : Sc) (ks : List Str) : PySem.W.Sortable (ks.map (modRow s)) := PySem.W.Sortable.tuples fun q => ⟨_, _, rfl⟩
theorem out_tup (s : Sc) (es : List MEnd) : tupO (outD s es) = true := by
  unfold outD
  rw [tupO]
  have m : tupOA (modsS s) = true := tupOA_all fun d hd => by
    obtain ⟨q, _, rfl⟩ := mods_mem hd
    exact rowMo_tup _ _ _
  have r : tupOA (rowsS es) = true := tupOA_all fun d hd => by
    obtain ⟨e, _, rfl⟩ := rows_mem hd
    exact row_tup e
  simp [tupOA, tupO, m, r]
theorem out_sha {s : Sc} {es : List MEnd} (k : Small s es) : SeqAt.shaped (outD s es) = true := by
  unfold outD
  refine sha_tup fun d hd => ?_
  simp only [List.mem_cons, List.not_mem_nil, or_false] at hd
  have cm := SeqAt.canLay_of_shaped (mods_sha k)
  have cr := SeqAt.canLay_of_shaped (rows_sha k)
  rcases hd with rfl | rfl
  · refine ⟨cm, ?_⟩
    rw [PyData.depth]
    have : PyData.depthAll (modsS s) ≤ 3 := depthAll_le fun d hd => by
      obtain ⟨q, _, rfl⟩ := mods_mem hd
      exact mod_depth s q
    omega
  · refine ⟨cr, ?_⟩
    rw [PyData.depth]
    have : PyData.depthAll (rowsS es) ≤ 3 := depthAll_le fun d hd => by
      obtain ⟨e, _, rfl⟩ := rows_mem hd
      exact row_depth e
    omega
end Cr
/-! k55: _law_alone_right -/
namespace Cr
open PySem PySem.Spec PyProof.Rows L2 Evl
/-! ### tuples of data: in, len, filtered -/
def rInTDt : R2 := fun x y H Q => ∃ d ds, Dt H x d ∧ Dt H y (.tuple ds) ∧ SeqAt.shaped d = true ∧ SeqAt.shaped (.tuple ds) = true ∧ Q (.bl (ds.any fun z => PyData.eqv z d)) H
theorem op_inTDt {X : Cx} (hu : X.A.units + 65 < cLine) : OpR X (compareOp .In) rInTDt := by
  intro pins s σ H x y v u Q I rx ry h
  obtain ⟨d, ds, hd, he, sd, se, q⟩ := h
  obtain ⟨as, r1⟩ := (Dt.shown I hd rx).1
  obtain ⟨bs, r2⟩ := (Dt.shown I he ry).1
  exact SeqAt.in_tuple_reads r2 r1 (SeqAt.canLay_of_shaped se) (SeqAt.canLay_of_shaped sd) (room_in_shaped sd hu) ⟨.bl _, H, I, rfl, q⟩
section
variable {K : PySem.W.Frag} {σ : L2.St} {H : Hp} {ta tb te : TE} {d : PyData} {ds : List PyData}
theorem ev_inT (h1 : EvD ta σ H d) (h2 : EvD tb σ H (.tuple ds)) (s1 : SeqAt.shaped d = true) (s2 : SeqAt.shaped (.tuple ds) = true) : Ev (tOp rInTDt ta tb) σ H (.bl (ds.any fun z => PyData.eqv z d)) := fun H1 e1 Q q =>
  h1 H1 e1 _ fun v H2 e2 hv => h2 H2 (e1.trans e2) _ fun u H3 e3 hu => ⟨d, ds, Dt.ex e3 hv, hu, s1, s2, q H3 (e2.trans e3)⟩
theorem et_notInT (h1 : EvD ta σ H d) (h2 : EvD tb σ H (.tuple ds)) (s1 : SeqAt.shaped d = true) (s2 : SeqAt.shaped (.tuple ds) = true) : EvT (tTest (tOp rNotInDt ta tb)) σ H (!ds.any fun z => PyData.eqv z d) := fun H1 e1 Q q =>
  h1 H1 e1 _ fun v H2 e2 hv => h2 H2 (e1.trans e2) _ fun u H3 e3 hu => ⟨d, ds, Dt.ex e3 hv, hu, s1, s2, _, rfl, q H3 (e2.trans e3)⟩
theorem ev_lenTD (h : EvD te σ H (.tuple ds)) : Ev (tCB (rLenS K) (tCons te tNil)) σ H (.int (ds.length : Int)) := fun H1 e1 Q q =>
  h H1 e1 _ fun v H2 e2 hv => by
    obtain ⟨a, rfl⟩ : ∃ a, v = .ref a := by cases hv; exact ⟨_, rfl⟩
    obtain ⟨xs, ha, hx⟩ := dt_tup hv
    refine ⟨a, xs, rfl, .inr (st_of ha), ?_⟩
    rw [dtAll_len hx]
    exact q H2 e2
theorem evd_listOfT (h : EvD te σ H (.tuple ds)) : EvD (tCB (rListK K) (tCons te tNil)) σ H (.list ds) := fun H1 e1 Q q =>
  h H1 e1 _ fun v H2 e2 hv => by
    obtain ⟨a, rfl⟩ : ∃ a, v = .ref a := by cases hv; exact ⟨_, rfl⟩
    obtain ⟨xs, ha, hx⟩ := dt_tup hv
    exact ⟨a, xs, rfl, .inr (st_of ha), fun l zl => q (.ref l) _ (e2.trans (Ex.new zl)) (.lst upd_same (DtAll.ex (Ex.new zl) hx))⟩
theorem evd_filterT {tl : TE} {tt : TT} {j : Nat} (b : PyData → Bool) (hl : EvD tl σ H (.tuple ds)) (hz : ds.length ≤ 40000) (hj : ∀ x, wipe ((wipe σ [j]).set j (some x)) [j] = wipe σ [j]) (hjl : j < σ.length) (hwl : (wipe σ [j]).length = σ.length)
    (ht : ∀ x d H1, Ex H H1 → Dt H1 x d → d ∈ ds → EvT tt ((wipe σ [j]).set j (some x)) H1 (b d)) : EvD (tLc (iTup K tl) (gName j) tt (tVar j) [j]) σ H (.list (ds.filter b)) := fun H0 e Q q => by
  refine hl H0 e _ fun v H1 e1 hv => ?_
  obtain ⟨a, rfl⟩ : ∃ a, v = .ref a := by cases hv; exact ⟨_, rfl⟩
  obtain ⟨xs, ha1, hx1⟩ := dt_tup hv
  have e01 := e.trans e1
  have len := dtAll_len hx1
  refine ⟨a, rfl, ⟨_, st_of ha1⟩, fun D hD => ?_⟩
  refine lc_it (walk_tup (K := K) (a := a) (xs := xs)) (fun n H2 => ∃ acc, H2 D = some (.lst acc) ∧ DtAll (wo D H2) acc ((ds.take n).filter b) ∧ Ex H1 (wo D H2))
    ⟨[], upd_same, by rw [List.take_zero]; exact .nil, fun c o hb => by rw [wo_ne (ne_of_none hb hD), upd_ne (ne_of_none hb hD)]; exact hb⟩ (fun n H2 _ p => ?_) (fun n x H2 H3 hlt p y => ?_) (fun H2 p => ?_)
  · obtain ⟨_, _, _, ex2⟩ := p
    exact st_of ((ex2.trans (wo_ex D H2)) _ _ ha1)
  · obtain ⟨acc, hacc, hdt, ex2⟩ := p
    obtain ⟨rfl, hy⟩ := y
    obtain ⟨d, hd, hxd⟩ := DtAll.get hx1 hy
    have low := ex2.trans (wo_ex D H3)
    have hnd : n < ds.length := by omega
    have htk : ds.take (n + 1) = ds.take n ++ [d] := by
      rw [List.take_succ_eq_append_getElem hnd]
      congr 2
      rw [List.getElem?_eq_getElem hnd] at hd
      exact Option.some.inj hd
    refine ⟨hj _, ?_⟩
    refine ht x d H3 (e01.trans low) (Dt.ex low hxd) (List.mem_of_getElem? hd) H3 (Ex.refl H3) _ fun H4 e4 => ?_
    have ex4 : Ex H1 (wo D H4) := fun c o hc => by
      have n1 : c ≠ D := ne_of_none hc hD
      rw [wo_ne n1]
      exact e4 _ _ (low _ _ hc)
    have dt4 : DtAll (wo D H4) acc ((ds.take n).filter b) := DtAll.ex (Ex.wo e4) hdt
    cases hb : b d with
    | true =>
      rw [if_pos rfl]
      have la := dtAll_len hdt
      have lf := List.length_filter_le b (ds.take n)
      rw [List.length_take] at lf
      refine ⟨x, by rw [List.getElem?_set_self (by rw [hwl]; exact hjl)], acc, e4 _ _ hacc, by rw [sizeLine_eq]; omega, acc ++ [x], upd_same, ?_, fun c o hc => by rw [wo_ne (ne_of_none hc hD), upd_ne (ne_of_none hc hD)]; exact e4 _ _ (low _ _ hc)⟩
      have exD : Ex (wo D H4) (wo D (upd H4 D (.lst (acc ++ [x])))) := fun c o hc => by
        obtain ⟨n1, hc⟩ := wo_some hc
        rw [wo_ne n1, upd_ne n1]
        exact hc
      rw [htk, List.filter_append, List.filter_cons_of_pos hb, List.filter_nil]
      exact dtAll_app (DtAll.ex exD dt4) (.cons (Dt.ex (ex4.trans exD) hxd) .nil)
    | false =>
      rw [if_neg Bool.false_ne_true]
      refine ⟨acc, e4 _ _ hacc, ?_, ex4⟩
      rw [htk, List.filter_append, List.filter_cons_of_neg (by rw [hb]; decide), List.filter_nil, List.append_nil]
      exact dt4
  · obtain ⟨acc, hacc, hdt, ex2⟩ := p
    rw [List.take_of_length_le (by omega)] at hdt
    exact q (.ref D) H2 (e1.trans (ex2.trans (wo_ex D H2))) (.lst hacc (DtAll.ex (wo_ex D H2) hdt))
end
mutual
theorem ndt_tupO : ∀ {d : PyData}, tupO d = true → ndt d = true
  | .none, _ | .bool _, _ | .int _, _ | .str _, _ => rfl
  | .tuple xs, h => by
    rw [tupO] at h
    rw [ndt]
    exact ndt_tupOA h
theorem ndt_tupOA : ∀ {ds : List PyData}, tupOA ds = true → ndtAll ds = true
  | [], _ => rfl
  | x :: xs, h => by
    rw [tupOA, Bool.and_eq_true] at h
    rw [ndtAll, ndt_tupO h.1, ndt_tupOA h.2]
    rfl
end
theorem ndtAll_of {ds : List PyData} (h : ∀ d ∈ ds, ndt d = true) : ndtAll ds = true := by
  induction ds with
  | nil => rfl
  | cons d ds ih =>
    rw [ndtAll, h d List.mem_cons_self, ih fun e he => h e (List.mem_cons_of_mem _ he)]
    rfl
theorem evd_eqv {ta tb : TE} {σ : L2.St} {H : Hp} {d e : PyData} (h1 : EvD ta σ H d) (h2 : EvD tb σ H e) (s1 : SeqAt.shaped d = true) (s2 : SeqAt.shaped e = true) : Ev (tOp rEqDt ta tb) σ H (.bl (PyData.eqv d e)) := fun H1 e1 Q q =>
  h1 H1 e1 _ fun v H2 e2 hv => h2 H2 (e1.trans e2) _ fun u H3 e3 hu => ⟨d, e, Dt.ex e3 hv, hu, s1, s2, q H3 (e2.trans e3)⟩
/-- {k: v} -/
theorem disp1 {tk tv : TE} {σ : L2.St} {H : Hp} {n : Str} {v : V} (hk : Ev tk σ H (.str n)) (hv : Ev tv σ H v) {Q : VK} (q : ∀ p H', H p = none → Ex H H' → H' p = some (.dK [(.inr n, v)]) → Q (.ref p) H') : tDisp [(tk, tv)] σ H Q := fun p zp =>
  hk _ (Ex.new zp) _ fun H1 e1 => hv H1 ((Ex.new zp).trans e1) _ fun H2 e2 => ⟨(e1.trans e2) _ _ upd_same, [(.inr n, v)], rfl, by show 1 ≤ 15; decide, q p _ zp (fun c o h => by
    rw [upd_ne (ne_of_none h zp)]
    exact ((Ex.new zp).trans (e1.trans e2)) _ _ h) upd_same⟩
abbrev sAl : Stmt := topS 63
abbrev nAl : List Str := ["_law_made", "_law_mains", "_law_whole", "_law_parts", "_law_name", "_law_alone", "_law_row"]
abbrev pAl : List Str := ["_law_made", "_law_mains", "_law_whole"]
theorem scAl : FnScope nAl pAl (defScope sAl) := ⟨rfl, rfl, rfl, by decide +kernel, rfl, by decide +kernel, by decide +kernel⟩
def spAl (C : Addr) (n : Nat) : Sp := fun vs H Q _ => ∃ x Mn W L M labs es s, vs = [.ref x, .ref Mn, .ref W] ∧ PlIn C H Mn x L M labs n es s ∧ Dt H (.ref W) (outD s es) ∧ Small s es ∧ (∀ r ∈ M, ∃ es1 s1, mainsS (initS L n) [r] s0S = some (es1, s1)) ∧ ∀ H', Ex H H' → Q (.bl true) H'
section
variable {P : Program} {w : World} {K : PySem.W.Frag} {mg : Str → Option Value} {base : Heap}
theorem ok_al {f C : Addr} {fd : FuncData} {k n : Nat} (F : Fun K "_law_alone_right" "_law_alone_right" sAl f fd) (B : Blt mg) (h1 : HasO P w K mg base k "plain_run" ["library", "mains"] (spPRun C n)) :
    FnOk P w K mg base CX0 (k + 1) f fd pAl (spAl C n) := by
  obtain ⟨f1, d1, G1, b1, k1, g1⟩ := h1.ex
  refine F.ok scAl (fun vs H Q E h => by obtain ⟨_, _, _, _, _, _, _, _, rfl, _⟩ := h; rfl) (fun cdv A outer s H vs Q E hr h => ?_)
  obtain ⟨x, Mn, W, L, M, labs, es, s, rfl, ⟨⟨kvs, mn⟩, mv, LU, hms⟩, dW, sm, alone, q⟩ := h
  have hu := hu_of hr
  refine ⟨_, pss_cons (ps_set (i := 3) scAl.nd rfl (.inr rfl) (pe_lst pa_nil))
    (pss_cons (ps_lock (ps_for PassesOwn.never rfl (pi_keys (pv 1)) (pg_name (i := 4) scAl.nd rfl (.inl rfl))
      (pss_cons (ps_set (i := 5) scAl.nd rfl (.inl rfl) (pe_call (E := E0) G1 hr (by rfl) g1 k1 b1 .nil pass0 (pa_cons (pv 0) (pa_cons (pe_disp (pps_cons (pv 4) (pe_dget hu (pv 1) (pv 4) (fun _ _ => rfl)) pps_nil) (by rfl) (by rfl) (fun z => by cases z) (by decide)) pa_nil))))
      (pss_cons (ps_if (PW.pt (pw_or (pt_cmpR op_ne (pe_callB call_len_seq (by rfl) B.len bLen (pa_cons (pe_ix ix_tup (pv 5) pe_int (fun _ _ => rfl)) pa_nil)) pe_int (nomark _))
          (pw_or (pt_cmpR (op_notInDt (units65 hr)) (pe_ix ix_tup (pe_ix ix_tup (pv 5) pe_int (fun _ _ => rfl)) pe_int (fun _ _ => rfl)) (pe_ix ix_tup (pv 2) pe_int (fun _ _ => rfl)) (by rfl))
          (pw_or1 (pt_not (pt_val (pe_callB (cr_all rfl) (by rfl) B.all bAll (pa_cons (pe_lc (own := [("_law_row", 6)]) (g := gName 6) (tt := tYes) (te := tOp rInTDt (tVar 6) (tOp (rIxT K) (tVar 2) (tC (.int 0)))) rfl scAl.nd (pi_tup (pe_ix ix_tup (pv 5) pe_int (fun _ _ => rfl))) (blkOk_by (own := [("_law_row", 6)]) (N := nAl) (sc := defScope sAl) (by decide +kernel))
            (fun _ _ _ _ _ => pg_name (i := 6) scAl.nd rfl (Or.inl rfl)) (fun _ _ _ _ _ => pts_nil) (fun _ _ _ _ _ => by exact pe_cmpR (op_inTDt (units65 hr)) (pv 6) (pe_ix ix_tup (pv 2) pe_int (fun _ _ => rfl)) (by rfl))) pa_nil)))))))) (pss_one (ps_ret pe_bl)) pss_nil)
      (pss_one (ps_set (i := 3) scAl.nd rfl (.inr rfl) (pe_op op_cat (pv 3) (pe_lc (own := [("_law_row", 6)]) (g := gName 6) (tt := tTest (tOp (rInLDt true) (tVar 6) (tVar 3))) (te := tVar 6) rfl scAl.nd (pi_tup (pe_ix ix_tup (pv 5) pe_int (fun _ _ => rfl))) (blkOk_by (own := [("_law_row", 6)]) (N := nAl) (sc := defScope sAl) (by decide +kernel))
            (fun _ _ _ _ _ => pg_name (i := 6) scAl.nd rfl (Or.inl rfl)) (fun _ _ _ _ _ => by exact pts_one (pt_cmpR (op_notInLDt hr.units) (pv 6) (pv 3) (by rfl))) (fun _ _ _ _ _ => by exact pv 6)))))))))
    (pss_one (ps_ret (pe_cmpR (op_eqDt hr.units) (pe_callB (call_sortDt hr.units) (by rfl) B.sorted bSrt (pa_cons (pv 3) pa_nil)) (pe_callTy (call_list_of) (by rfl) B.list bList (pa_cons (pe_ix ix_tup (pv 2) pe_int (fun _ _ => rfl)) pa_nil)) (nomark _))))), ?_⟩
  have lr := LU.n.r
  have l8 := mv.l8
  have lk := lkv_len mn.k
  obtain ⟨wf, _⟩ := mains_lb lr mv.ok wf0 (lb0 L) hms
  refine ⟨Nat.zero_le _, fun Pz zP => ?_⟩
  have eP : Ex H (upd H Pz (.lst [])) := Ex.new zP
  have hPz : (upd H Pz (.lst [])) Pz = some (.lst []) := upd_same
  show tSeq _ _ _ [some (.ref x), some (.ref Mn), some (.ref W), some (.ref Pz), none, none, none] _
  generalize upd H Pz (.lst []) = H1 at eP hPz
  have mn1 := mn.ex eP
  have PM : Pz ≠ Mn := fun e => by rw [e, mn1.d] at hPz; cases hPz
  refine ⟨Mn, .dK kvs, mn1.d, trivial, fun od => ?_⟩
  obtain ⟨HL, hHL⟩ : ∃ HL, HL = upd H1 Mn (.frz od (.dK kvs)) := ⟨_, rfl⟩
  rw [← hHL]
  have hM : HL Mn = some (.frz od (.dK kvs)) := by rw [hHL, upd_same]
  have lkL : LKv HL kvs M := by rw [hHL]; exact mn1.lk od
  have lbL : LbAt C HL x L := by rw [hHL]; exact mn1.ll od
  have hPL : HL Pz = some (.lst []) := by rw [hHL, upd_ne PM]; exact hPz
  have tpL : Tps H1 HL := fun a ys z => by
    rw [hHL, upd_ne (fun e => by rw [e, mn1.d] at z; cases z)]
    exact z
  have dWL : Dt HL (.ref W) (outD s es) := Dt.tps tpL (out_tup s es) (Dt.ex eP dW)
  refine ⟨.ref Mn, rfl, Mn, od, rfl, .inl ⟨kvs, hM, for_it walk_keys (fun m σ' H' => ∃ (Pa : Addr) (y4 y5 y6 : Option V) (ks : List Str), σ' = [some (.ref x), some (.ref Mn), some (.ref W), some (.ref Pa), y4, y5, y6] ∧ Ex HL H' ∧ Dt H' (.ref Pa) (.list (ks.map (modRow s))) ∧ ks.Nodup ∧ (∀ q ∈ ks, q ∈ keysA s.rs) ∧ ∀ r ∈ M.take m, ∀ es1 s1, mainsS (initS L n) [r] s0S = some (es1, s1) → ∀ q ∈ keysA s1.rs, q ∈ ks)
    ⟨Pz, _, _, _, [], rfl, Ex.refl _, .lst hPL .nil, List.nodup_nil, (fun _ h => nomatch h), fun r hr => by rw [List.take_zero] at hr; exact nomatch hr⟩ (fun m σ' H' _ hP => ?_) (fun m u σ' H' H'' hm hP hY => ?_) (fun σ' H6 hP => ?_)⟩⟩
  · obtain ⟨_, _, _, _, _, _, e, _⟩ := hP
    exact e _ _ hM
  · obtain ⟨Pa, y4, y5, y6, ks, rfl, e1, dP, nd, sub, cov⟩ := hP
    obtain ⟨rfl, k0, v0, hk0, rfl⟩ := hY
    have hml : m < M.length := by omega
    obtain ⟨v, hv, dv⟩ := lkv_get lkL (List.getElem?_eq_getElem hml)
    rw [hk0] at hv
    cases hv
    have hin := List.getElem_mem hml
    have htk : M.take (m + 1) = M.take m ++ [M[m]] := List.take_succ_eq_append_getElem hml
    obtain ⟨v', hv', dv'⟩ := lkv_at (n := M[m].1) lkL (List.mem_map_of_mem (f := (·.1)) hin)
    rw [progL_in mv.nd hin] at dv'
    obtain ⟨es1, s1, h1⟩ := alone _ hin
    obtain ⟨e, rfl, he, hmod⟩ := single lr mv.ok hms hin h1
    generalize M[m] = r at hin hv' dv' h1 htk
    have one : ∀ y ∈ [r], y ∈ M := fun y hy => by rw [List.mem_singleton.mp hy]; exact hin
    have mv1 : MainsV L [r] := ⟨fun y hy => mv.nm y (one y hy), by simp, by simp, fun y hy => mv.ok y (one y hy), fun y hy => mv.mi y (one y hy), fun y hy => mv.ne y (one y hy)⟩
    obtain ⟨wf1, _⟩ := mains_lb lr mv1.ok wf0 (lb0 L) h1
    show tSeq _ _ _ [some (.ref x), some (.ref Mn), some (.ref W), some (.ref Pa), some (.str r.1), y5, y6] H''
    refine q_asgAny ?_
    refine ⟨.ref x, rfl, disp1 (n := r.1) (v := v') (ev_var rfl) (ev_dgetR (ev_var rfl) (ev_var rfl) (.inr ⟨od, e1 _ _ hM⟩) hv') fun D1 H3 zD1 e3 hD1 => ?_⟩
    have e13 := e1.trans e3
    have k1 : LKv H3 [(.inr r.1, v')] [r] := .cons (k := Sum.inr r.1) (Dt.ex e13 dv') .nil
    have lb3 := lbL.ex e13
    have ne1 : ∀ dx dd, H3 x = some (.ins C dx [("initializers", .ref dd)]) → dd ≠ D1 := lb_apart (lbL.ex e1) (fun o ho => e3 _ _ ho) zD1
    refine ⟨D1, x, L, [r], labs, [e], s1, rfl, ⟨⟨_, mn_mk hD1 k1 mv1.ok lb3 LU.v ne1⟩, mv1, LU, h1⟩, fun va H4 e4 dva => ?_⟩
    have e14 := e13.trans e4
    show tSeq _ _ _ [some (.ref x), some (.ref Mn), some (.ref W), some (.ref Pa), some (.str r.1), some va, y6] H4
    have dW4 := Dt.ex e14 dWL
    have modEq : modsS s1 = (srtS (keysA s1.rs)).map (modRow s) := by
      unfold modsS
      exact List.map_congr_left fun q hq => (hmod q ((srtS_perm _).mem_iff.mp hq)).2
    have rowEq : rowsS [e] = [rowE e] := by unfold rowsS; simp
    have outEq : outD s1 [e] = .tuple [.tuple ((srtS (keysA s1.rs)).map (modRow s)), .tuple [rowE e]] := by
      unfold outD
      rw [modEq, rowEq]
    rw [outEq] at dva
    have key1 : ∀ q ∈ srtS (keysA s1.rs), q ∈ keysA s.rs := fun q hq => (hmod q ((srtS_perm _).mem_iff.mp hq)).1
    have l1 : (srtS (keysA s1.rs)).length ≤ 40 := by
      have nd1 : (srtS (keysA s1.rs)).Nodup := (srtS_perm _).nodup_iff.mpr wf1.nr
      have z := len_sub nd1 key1
      have := sm.r40
      unfold keysA at z
      rw [List.length_map] at z
      exact Nat.le_trans z this
    have dWu : Dt H4 (.ref W) (.tuple [.tuple (modsS s), .tuple (rowsS es)]) := dW4
    have c1 : EvT (tTest (tOp rNe (tCB (rLenS K) (tCons (tOp (rIxT K) (tVar 5) (tC (.int ((1 : Nat) : Int)))) tNil)) (tC (.int 1)))) [some (.ref x), some (.ref Mn), some (.ref W), some (.ref Pa), some (.str r.1), some va, y6] H4 false := et_is (et_test (ev_op (ev_lenTD (evd_ixT (evd_var rfl dva) rfl)) ev_c (rv_ne rfl))) (by rfl)
    have c2 : EvT (tTest (tOp rNotInDt (tOp (rIxT K) (tOp (rIxT K) (tVar 5) (tC (.int ((1 : Nat) : Int)))) (tC (.int ((0 : Nat) : Int)))) (tOp (rIxT K) (tVar 2) (tC (.int ((1 : Nat) : Int)))))) [some (.ref x), some (.ref Mn), some (.ref W), some (.ref Pa), some (.str r.1), some va, y6] H4 false := by
      refine et_is (et_notInT (d := rowE e) (ds := rowsS es) (evd_ixT (evd_ixT (evd_var rfl dva) rfl) rfl) (evd_ixT (evd_var rfl dWu) rfl) (row_sha sm he) (rows_sha sm)) ?_
      rw [any_self (row_lay sm he) (mem_rows he)]
      rfl
    have c3 : EvT (tNot (tB (tCB (rAll K) (tCons (tLc (iTup K (tOp (rIxT K) (tVar 5) (tC (.int ((0 : Nat) : Int))))) (gName 6) tYes (tOp rInTDt (tVar 6) (tOp (rIxT K) (tVar 2) (tC (.int ((0 : Nat) : Int))))) [6]) tNil)))) [some (.ref x), some (.ref Mn), some (.ref W), some (.ref Pa), some (.str r.1), some va, y6] H4 false := by
      have lc := el_tupY (K := K) (wl := tOp (rIxT K) (tVar 5) (tC (.int ((0 : Nat) : Int)))) (te := tOp rInTDt (tVar 6) (tOp (rIxT K) (tVar 2) (tC (.int ((0 : Nat) : Int))))) (j := 6) (σ := [some (.ref x), some (.ref Mn), some (.ref W), some (.ref Pa), some (.str r.1), some va, y6]) (H := H4) (ds := (srtS (keysA s1.rs)).map (modRow s)) (fun d => .bl ((modsS s).any fun z => PyData.eqv z d)) (evd_ixT (evd_var rfl dva) rfl) (by rw [List.length_map]; omega) (fun _ => rfl) (fun xv d Ha ea hd dx => by
        obtain ⟨q, hq, rfl⟩ := List.mem_map.mp hd
        exact ev_inT (evd_var rfl dx) (evd_ixT (evd_var rfl (Dt.ex ea dWu)) rfl) (mod_sha sm (key1 q hq)) (mods_sha sm))
      have em : ((srtS (keysA s1.rs)).map (modRow s)).map (fun d => V.bl ((modsS s).any fun z => PyData.eqv z d)) = (((srtS (keysA s1.rs)).map (modRow s)).map fun d => (modsS s).any fun z => PyData.eqv z d).map V.bl := by simp only [List.map_map]; rfl
      rw [em] at lc
      refine et_is (et_not (et_B (ev_all lc))) ?_
      have all1 : ((((srtS (keysA s1.rs)).map (modRow s)).map fun d => (modsS s).any fun z => PyData.eqv z d).all id) = true := by
        rw [List.all_map, List.all_map, List.all_eq_true]
        intro q hq
        show ((modsS s).any fun z => PyData.eqv z (modRow s q)) = true
        unfold modsS
        rw [any_mod sm _ (key1 q hq), decide_eq_true ((srtS_perm _).mem_iff.mpr (key1 q hq))]
      rw [all1]
      rfl
    refine q_when (b := false) (et_is (et_or (a := false) c1 fun _ => et_is (et_or (a := false) c2 fun _ => c3) rfl) rfl) (fun z => nomatch z) (fun _ H5 e5 => ?_)
    have e15 := e14.trans e5
    have dP5 := Dt.ex ((e3.trans e4).trans e5) dP
    have dva5 := Dt.ex e5 dva
    have lks : ks.length ≤ 40 := by
      have z := len_sub nd sub
      have := sm.r40
      unfold keysA at z
      rw [List.length_map] at z
      exact Nat.le_trans z this
    have fl : EvD (tLc (iTup K (tOp (rIxT K) (tVar 5) (tC (.int ((0 : Nat) : Int))))) (gName 6) (tTest (tOp (rInLDt true) (tVar 6) (tVar 3))) (tVar 6) [6]) [some (.ref x), some (.ref Mn), some (.ref W), some (.ref Pa), some (.str r.1), some va, y6] H5 (.list (((srtS (keysA s1.rs)).map (modRow s)).filter fun d => !((ks.map (modRow s)).any fun z => PyData.eqv z d))) :=
      evd_filterT _ (evd_ixT (evd_var rfl dva5) rfl) (by rw [List.length_map]; omega) (fun _ => rfl) (by show 6 < 7; decide) rfl fun xv d Ha ea dx hd => by
        obtain ⟨q, hq, rfl⟩ := List.mem_map.mp hd
        exact et_notInL (evd_var rfl dx) (evd_var rfl (Dt.ex ea dP5)) (mod_lay sm (key1 q hq)) (canLay_all fun d hd => by
          obtain ⟨q', hq', rfl⟩ := List.mem_map.mp hd
          exact mod_lay sm (sub q' hq')) (Nat.le_trans (mod_depth s q) (by decide))
    have fe : (((srtS (keysA s1.rs)).map (modRow s)).filter fun d => !((ks.map (modRow s)).any fun z => PyData.eqv z d)) = ((srtS (keysA s1.rs)).filter fun q => decide (q ∉ ks)).map (modRow s) := by
      rw [List.filter_map]
      congr 1
      refine List.filter_congr fun q hq => ?_
      show (!((ks.map (modRow s)).any fun z => PyData.eqv z (modRow s q))) = decide (q ∉ ks)
      rw [any_mod sm ks (key1 q hq)]
      exact (decide_not (p := q ∈ ks)).symm
    rw [fe] at fl
    refine q_tAsg ?_
    refine (evdf_cat (evd_var (i := 3) rfl dP5) fl (by
      rw [List.length_map, List.length_map]
      have := List.length_filter_le (fun q => decide (q ∉ ks)) (srtS (keysA s1.rs))
      omega)) H5 (Ex.refl _) _ fun P2 H6 zP2 e6 dP2 => ?_
    refine ⟨P2, _, _, _, ks ++ (srtS (keysA s1.rs)).filter (fun q => decide (q ∉ ks)), rfl, e15.trans e6, ?_, ?_, ?_, ?_⟩
    · rw [List.map_append]
      exact dP2
    · refine List.nodup_append.mpr ⟨nd, ((srtS_perm _).nodup_iff.mpr wf1.nr).sublist List.filter_sublist, fun a ha b hb e => ?_⟩
      have := of_decide_eq_true (List.mem_filter.mp hb).2
      exact this (e ▸ ha)
    · intro q hq
      rcases List.mem_append.mp hq with z | z
      · exact sub q z
      · exact key1 q (List.mem_filter.mp z).1
    · intro r' hr' es' s' h' q hq
      rw [htk] at hr'
      rcases List.mem_append.mp hr' with z | z
      · exact List.mem_append_left _ (cov r' z es' s' h' q hq)
      · rw [List.mem_singleton.mp z, h1] at h'
        cases h'
        by_cases hk : q ∈ ks
        · exact List.mem_append_left _ hk
        · exact List.mem_append_right _ (List.mem_filter.mpr ⟨(srtS_perm _).mem_iff.mpr hq, decide_eq_true hk⟩)
  · obtain ⟨Pa, y4, y5, y6, ks, rfl, e1, dP, nd, sub, cov⟩ := hP
    rw [lk, List.take_length] at cov
    have hM6 := e1 _ _ hM
    refine ⟨hM6, ?_⟩
    have eU : Ex H1 (upd H6 Mn (.dK kvs)) := ex_unlock mn1.d (by rw [← hHL]; exact e1)
    have ndT : ∀ {d : PyData}, tupO d = true → ndt d = true := ndt_tupO
    have dP7 : Dt (upd H6 Mn (.dK kvs)) (.ref Pa) (.list (ks.map (modRow s))) := Dt.keepLT (keepLT_upd (fun xs h => by rw [hM6] at h; cases h) (fun xs h => by rw [hM6] at h; cases h)) (by
      rw [ndt]
      exact ndtAll_of fun d hd => by
        obtain ⟨q, _, rfl⟩ := List.mem_map.mp hd
        exact ndt_tupO (rowMo_tup _ _ _)) dP
    have dW7 : Dt (upd H6 Mn (.dK kvs)) (.ref W) (.tuple [.tuple (modsS s), .tuple (rowsS es)]) := Dt.ex (eP.trans eU) dW
    have iff : ∀ q, q ∈ ks ↔ q ∈ keysA s.rs := fun q => ⟨sub q, fun hq => by
      obtain ⟨r, hr, hc⟩ := cover (n' := n) lr mv.ok hms hq
      obtain ⟨es1, s1, h1⟩ := alone r hr
      exact cov r hr es1 s1 h1 q (hc es1 s1 h1)⟩
    have so : EvD (tCB rSortDt (tCons (tVar 3) tNil)) [some (.ref x), some (.ref Mn), some (.ref W), some (.ref Pa), y4, y5, y6] (upd H6 Mn (.dK kvs)) (.list (modsS s)) := by
      rw [← parts_sorted wf nd iff]
      intro Ha ea Q' q'
      refine ⟨.ref Pa, rfl, ?_⟩
      obtain ⟨a, vs, ea', ha, hx⟩ := dt_lst (Dt.ex ea dP7)
      cases ea'
      exact ⟨_, vs, _, rfl, ha, hx, mods_alike s ks, mods_sortable s ks, fun d hd => by
        obtain ⟨q, _, rfl⟩ := List.mem_map.mp hd
        exact Nat.le_trans (mod_depth s q) (by decide), fun ys p zp hys => q' (.ref p) _ (Ex.new zp) (.lst upd_same (DtAll.ex (Ex.new zp) hys))⟩
    have shl : SeqAt.shaped (.list (modsS s)) = true := sha_lst fun d hd => by
      obtain ⟨q, hq, rfl⟩ := mods_mem hd
      exact ⟨mod_lay sm hq, Nat.le_trans (mod_depth s q) (by decide)⟩
    have ev := evd_eqv so (evd_listOfT (K := K) (evd_ixT (K := K) (j := 0) (evd_var (i := 2) rfl dW7) rfl)) shl shl
    refine s_ret ev fun H8 e8 => ?_
    rw [SeqAt.eqv_refl _ (SeqAt.canLay_of_shaped shl)]
    exact q H8 ((eP.trans eU).trans e8)
end
end Cr
/-! repr(o) by an own __repr__ that itself asks for texts of data -/
/-! f'..{e!r}..', e a dict of data -/
/-! errors: copied -/
namespace Cr
open PySem PySem.Spec PyProof.Rows L2 Evl
/-! ### what is new -/
def dif (H H' : Hp) : Hp := fun a => match H a with | none => H' a | some _ => none
theorem dif_at {H H' : Hp} {a : Addr} {o : HO} (h : H a = none) (h' : H' a = some o) : dif H H' a = some o := by unfold dif; rw [h]; exact h'
theorem dif_get {H H' : Hp} {a : Addr} {o : HO} (h : dif H H' a = some o) : H a = none ∧ H' a = some o := by
  unfold dif at h
  cases e : H a with
  | none => rw [e] at h; exact ⟨rfl, h⟩
  | some u => rw [e] at h; cases h
/-! ### what can be copied -/
/-! ### a list of copies -/
structure Cop (H H' : Hp) (D : Addr) (ys : List V) (ds : List PyData) : Prop where
  ex : Ex H H'
  hD : H' D = some (.lst ys)
  dt : DtAll (dif (upd H D (.lst [])) H') ys ds
theorem Cop.add {H H' H2 : Hp} {D : Addr} {ys : List V} {ds : List PyData} {v : V} {d : PyData} (c : Cop H H' D ys ds) (zD : H D = none) (e2 : Ex H' H2) (hv : Dt (dif H' H2) v d) : Cop H (upd H2 D (.lst (ys ++ [v]))) D (ys ++ [v]) (ds ++ [d]) := by
  refine ⟨Ex.mut (c.ex.trans e2) zD, upd_same, ?_⟩
  have n0 : ∀ {a : Addr}, upd H D (.lst []) a = none → a ≠ D := fun h e => by rw [e, upd_same] at h; cases h
  have old : Ex (dif (upd H D (.lst [])) H') (dif (upd H D (.lst [])) (upd H2 D (.lst (ys ++ [v])))) := fun a o h => by
    obtain ⟨h1, h2⟩ := dif_get h
    exact dif_at h1 (by rw [upd_ne (n0 h1)]; exact e2 _ _ h2)
  have new : Ex (dif H' H2) (dif (upd H D (.lst [])) (upd H2 D (.lst (ys ++ [v])))) := fun a o h => by
    obtain ⟨h1, h2⟩ := dif_get h
    have aD : a ≠ D := fun e => by rw [e, c.hD] at h1; cases h1
    refine dif_at ?_ (by rw [upd_ne aD]; exact h2)
    rw [upd_ne aD]
    exact fresh_back c.ex h1
  exact DtAll.append (DtAll.ex old c.dt) (.cons (Dt.ex new hv) .nil)
theorem Cop.all {H H' : Hp} {D : Addr} {ys : List V} {ds : List PyData} (c : Cop H H' D ys ds) (zD : H D = none) : DtAll (dif H H') ys ds := by
  refine DtAll.ex (fun a o h => ?_) c.dt
  obtain ⟨h1, h2⟩ := dif_get h
  refine dif_at ?_ h2
  by_cases e : a = D
  · rw [e]; exact zD
  · rw [upd_ne e] at h1; exact h1
end Cr
/-! own errors as values: made, asked, read -/
/-! super().__init__(..) first, then statements that call (Room is told) -/
/-! errors with one value that is copied -/
/-! errors with two values -/
/-! errors whose second value is copied -/
/-! own errors as they are made and raised, by the data of their fields -/
namespace Cr
open PySem PySem.Spec PyProof.Rows L2 Evl
/-- raised with the datum d in the field f -/
structure Rsd1 (H H' : Hp) (dx : Addr) (f : Str) (d : PyData) : Prop where
  new : H dx = none
  ex : Ex H H'
  at_ : ∃ v, H' dx = some (.xd [(f, v)]) ∧ Dt H' v d
/-- .. with two -/
structure Rsd2 (H H' : Hp) (dx : Addr) (f g : Str) (d e : PyData) : Prop where
  new : H dx = none
  ex : Ex H H'
  at_ : ∃ v u, H' dx = some (.xd [(g, u), (f, v)]) ∧ Dt H' v d ∧ Dt H' u e
theorem Rsd1.back {H0 H H' : Hp} {dx : Addr} {f : Str} {d : PyData} (r : Rsd1 H H' dx f d) (e : Ex H0 H) : Rsd1 H0 H' dx f d := ⟨fresh_back e r.new, e.trans r.ex, r.at_⟩
theorem Rsd2.back {H0 H H' : Hp} {dx : Addr} {f g : Str} {d e' : PyData} (r : Rsd2 H H' dx f g d e') (e : Ex H0 H) : Rsd2 H0 H' dx f g d e' := ⟨fresh_back e r.new, e.trans r.ex, r.at_⟩
end Cr
/-! own errors made and raised while another exception is handled: super().__init__(..) first -/
/-! defs whose errors have no context: they may be caught by a suite that raises -/
/-! defs whose errors have no context; errors made while another is handled -/
namespace Cr
open PySem PySem.Spec PyProof.Rows L2 Evl
/-- a def whose errors have no context -/
structure HasN (P : Program) (w : World) (K : PySem.W.Frag) (mg : Str → Option Value) (base : Heap) (k : Nat) (x : Str) (ps : List Str) (sp : Sp) : Prop where
  ex : ∃ f fd, FnOk P w K mg base (L2N.CX P w) k f fd ps sp ∧ Binds K fd ps [] ∧ PySem.W.keepIn K (.ref f) = true ∧ mg x = some (.ref f)
theorem HasN.up {P : Program} {w : World} {K : PySem.W.Frag} {mg : Str → Option Value} {base : Heap} {x : Str} {ps : List Str} {sp : Sp} {j k : Nat} (h : HasN P w K mg base j x ps sp) (le : j ≤ k) : HasN P w K mg base k x ps sp := by
  obtain ⟨f, fd, G, b, kp, g⟩ := h.ex
  exact ⟨⟨f, fd, fnUp G le, b, kp, g⟩⟩
end Cr
/-! InvalidLibrary, made where nothing is handled and while another error is handled -/
/-! check_steps: its errors have no context -/
/-! an except suite with a name that raises out of the try -/
/-! pairs that may be none of a library -/
/-! libraries: len, repr, a module that is unknown -/
namespace Cr
open PySem PySem.Spec PyProof.Rows L2 Evl
abbrev sLRepr : Stmt := inClass (topS 47) 4
theorem scLRepr : FnScope ["self"] ["self"] (defScope sLRepr) := ⟨rfl, rfl, rfl, by decide +kernel, rfl, by decide +kernel, by decide +kernel⟩
def reprL (L : Lib) : Str := ((Str.empty ++ "Library(") ++ (libD L).shown) ++ ")"
end Cr
/-! defs that are called while a repr is under way -/
namespace Cr
open PySem PySem.Spec PyProof.Rows L2 Evl
/-- a def's promise, kept while these reprs are under way -/
structure FnQ (g : List Code) (P : Program) (w : World) (K : PySem.W.Frag) (mg : Str → Option Value) (base : Heap) (CX : CXT) (k : Nat) (f : Addr) (fd : FuncData) (ps : List Str) (sp : Sp) : Prop where
  sized : ∀ vs H Q E, sp vs H Q E → vs.length = ps.length
  goes : ∀ (A : Around) (outer : List Env) (s : Shared) (H : Hp) (args : Args) (us : List Value) (vs : List V) (Q : VK) (E : XK),
    A.guards = some g → Room k A → Env0 P w K mg base A outer s H → BindsTo s fd args (ps.zip us) → Vals vs us → sp vs H Q E →
    codeAny (model P w) A (.call (.ref f) args) (CR CX outer P w H s Q E) s
section
variable {P : Program} {w : World} {K : PySem.W.Frag} {mg : Str → Option Value} {base : Heap}
/-- a def by its body, while something is being shown around -/
theorem okQ {g : List Code} {x qual : Str} {st : Stmt} {f : Addr} {fd : FuncData} {N ps : List Str} {k : Nat} {sp : Sp}
    (F : Fun K x qual st f fd) (S : FnScope N ps (defScope st)) (len : ∀ vs H Q E, sp vs H Q E → vs.length = ps.length)
    (hbody : ∀ (cdv : Value) (A : Around) (outer : List Env) (s : Shared) (H : Hp) (vs : List V) (Q : VK) (E : XK),
      (A.deeper (envOfC qual (defScope st) s.heap.objs.size f cdv)).guards = some g →
      Room k (A.deeper (envOfC qual (defScope st) s.heap.objs.size f cdv)) → sp vs H Q E →
      ∃ t, PSs (cxOf CX0 P w K mg base N qual (defScope st) f cdv A outer s H E).nox (defBody st) t ∧
        t { nx := fun _ H' => Q .non H', rt := Q } (start N vs) H) :
    FnQ g P w K mg base CX0 (k + 1) f fd ps sp := by
  obtain ⟨oc, od, kV, doc, pm, an, cdv, ct, osl, rfl, lk, hcd⟩ := F.ex
  refine ⟨len, fun A outer s H args us vs Q E hq hr e0 hb r hsp => ?_⟩
  have keepB : ∀ b o, base.get? b = some o → s.heap.get? b = some o := fun b o e => (e0.bs b o e).1
  have kinds : ((ps.zip us).all fun y => (defScope st).names.lookup y.1 == some .local || (defScope st).names.lookup y.1 == some .cell) = true := by
    refine List.all_eq_true.mpr fun y hy => ?_
    obtain ⟨n, v⟩ := y
    rcases S.par n (List.of_mem_zip hy).1 with z | z
    · simp [z]
    · simp [z]
  refine Att.call_fn (binds := ps.zip us) (e0.mod.kin.keeps keepB) (e0.mod.nolimit.keeps keepB) lk hcd hr.depth hb kinds (fun s1 IC => ?_) S.co S.gen S.kind
  obtain ⟨t, ht, hT⟩ := hbody cdv A outer s H vs Q E hq (hr.deeper _) hsp
  have I := inv_start (CX := CX0) (E := E) S hr.hd e0 (len _ _ _ _ hsp) r IC
  refine wpAny_mono (ht.nox.run [] s1 (start N vs) H _ I hT) (fun fl s2 h2 => ?_) fun e s2 h2 => h2
  match fl, h2 with
  | .ret u, ⟨v, σ2, H2, J, rv, q⟩ => exact ⟨v, H2, J.os, J.bare, J.base, J.hok, rv, q⟩
  | .next, ⟨σ2, H2, J, q⟩ => exact ⟨V.non, H2, J.os, J.bare, J.base, J.hok, rfl, q⟩
  | .brk, ⟨_, _, _, q⟩ => exact q.elim
  | .cont, ⟨_, _, _, q⟩ => exact q.elim
end
theorem readsAll_mem {h : Heap} {v : Value} : ∀ {us : List Value} {ds : List PyData} {as : List Addr}, ReadsAll h us ds as → v ∈ us → ∃ d bs, Reads h v d bs
  | _, _, _, .nil, m => nomatch m
  | _, _, _, .cons r1 r2, m => by
    rcases List.mem_cons.mp m with e | m
    · rw [e]; exact ⟨_, _, r1⟩
    · exact readsAll_mem r2 m
end Cr
/-! repr([data, o]), o of an own class with an own __repr__ that asks for the text of a dict -/
namespace Cr
open PySem PySem.Spec PyProof.Rows L2 Evl
/-- only this list is being shown around -/
def OnlyAt (g : List Code) (a : Addr) : Prop := ∀ id v rest kw, Code.builtin id ⟨v :: rest, kw⟩ ∈ g → v = .ref a
theorem OnlyAt.clear {g : List Code} {a : Addr} {bs : List Addr} (o : OnlyAt g a) (no : a ∉ bs) : ∀ b ∈ bs, Clear g b := fun b hb id v rest kw m e => no (by
  have z := o _ _ _ _ m
  rw [z] at e
  cases e
  exact hb)
/-- a list with an own object in it is no part of data -/
theorem not_read {h : Heap} {a y C : Addr} {o oy : Obj} {vs : Array Value} {n N : Nat} {bs : List Addr} (ha : h.get? a = some o) (hd : o.data = .seq vs n) (m : Value.ref y ∈ vs.toList) (hy : h.get? y = some oy) (cy : oy.cls = .ref C) (hb : ReadAtMost h N bs) : a ∉ bs := fun hm => by
  have noY : ∀ {d as}, ¬ Reads h (.ref y) d as := fun r => by
    cases r with
    | list h1 h2 _ _ => rw [hy] at h1; cases h1; rw [cy] at h2; cases h2
    | tuple h1 h2 _ _ => rw [hy] at h1; cases h1; rw [cy] at h2; cases h2
    | dict h1 h2 _ _ _ => rw [hy] at h1; cases h1; rw [cy] at h2; cases h2
  obtain ⟨d, as, r, _⟩ := hb a hm
  have all : ∀ {ds as}, ¬ ReadsAll h vs.toList ds as := fun r => by
    obtain ⟨d, bs, z⟩ := readsAll_mem r m
    exact noY z
  cases r with
  | list h1 _ h3 h4 => rw [ha] at h1; cases h1; rw [hd] at h3; cases h3; exact all h4
  | tuple h1 _ h3 h4 => rw [ha] at h1; cases h1; rw [hd] at h3; cases h3; exact all h4
  | dict h1 _ h3 _ _ => rw [ha] at h1; cases h1; rw [hd] at h3; cases h3
theorem vals_mem {xs : List V} {us : List Value} (r : Vals xs us) {a : Addr} (h : V.ref a ∈ xs) : Value.ref a ∈ us := by
  induction r with
  | nil => exact nomatch h
  | cons r1 _ ih =>
    rcases List.mem_cons.mp h with e | z
    · rw [← e] at r1
      cases r1
      exact List.mem_cons_self
    · exact List.mem_cons_of_mem _ (ih z)
/-- the list at a holds an own object -/
def HoldsO (H : Hp) (a : Addr) : Prop := ∃ (xs : List V) (y C dy : Addr) (fs : List (Str × V)), H a = some (.lst xs) ∧ V.ref y ∈ xs ∧ H y = some (.ins C dy fs)
theorem HoldsO.ex {H H' : Hp} {a : Addr} (h : HoldsO H a) (e : Ex H H') : HoldsO H' a := by
  obtain ⟨xs, y, C, dy, fs, h1, h2, h3⟩ := h
  exact ⟨xs, y, C, dy, fs, e _ _ h1, h2, e _ _ h3⟩
theorem HoldsO.free {X : Cx} {pins : List (Addr × Obj)} {σ : L2.St} {H : Hp} {s : Shared} {a : Addr} (I : Inv X pins σ H s) (h : HoldsO H a) {N : Nat} {bs : List Addr} (hb : ReadAtMost s.heap N bs) : a ∉ bs := by
  obtain ⟨xs, y, C, dy, fs, h1, h2, h3⟩ := h
  obtain ⟨_, its, n, rv, g⟩ := (show ObjOk X.prog X.w H s.heap a (.lst xs) from I.hok a _ h1)
  obtain ⟨mA, J, _⟩ := ins_get I.hok h3
  obtain ⟨od, J, _⟩ := J.look
  exact not_read g rfl (by simpa using vals_mem rv h2) J.at_ J.cls hb
def tFmtDctQ (a0 : Addr) (te : TE) : TE := fun σ H Q => te σ H fun x H1 => ∃ (a : Addr) (kvs : List (Key × V)) (ds : List (PyData × PyData)), x = .ref a ∧ H1 a = some (.dK kvs) ∧ DtKv H1 kvs ds ∧ Fits (.dict ds) ∧ HoldsO H1 a0 ∧ Q (.str (PyData.dict ds).shown) H1
theorem pe_fmtDctQ {X : Cx} {e : Expr} {te : TE} {pos : Pos} {g : List Code} {a0 : Addr} (hq : X.A.guards = some g) (ho : OnlyAt g a0) (hu : X.A.units + 64 < cLine) (he : PE X e te) : PE X (.FormattedValue e 114 none pos) (tFmtDctQ a0 te) := by
  refine ⟨fun pins s σ H Q I h => ?_⟩
  refine wpAny_FormattedValue_repr (thn (he.run pins s σ H _ I h) fun v s1 hv => ?_)
  obtain ⟨x, H1, I1, r1, a, kvs, ds, rfl, h, t, fit, hol, q⟩ := hv
  obtain rfl : v = Value.ref a := r1
  have dp := fit.deep
  have sz := fit.size
  have sw := fit.show1
  obtain ⟨_, sys, us, kv, o, es, ep, gg, ex, e, _, ps, _⟩ := (show ObjOk X.prog X.w H1 s1.heap a (.dK kvs) from I1.hok a _ h)
  obtain ⟨sh1, sh2⟩ := shown_pairs kv ps (fun i k v u q r => DtKv.shown I1 t i k v u q r) (DtKv.len t)
  obtain ⟨⟨as, ra⟩, sa⟩ := sh1
  obtain ⟨⟨bs, rb⟩, sb⟩ := sh2
  rw [PyData.showable] at sw
  rw [PyData.depth] at dp
  have R : Reads s1.heap (.ref a) (.dict ds) (a :: as ++ bs) := .dict gg ex.1 e ra rb
  have sz2 := sz
  rw [PyData.shown] at sz
  obtain ⟨w1, w2⟩ := PyData.showableKv_split ds sw
  obtain ⟨b1, m1, k1⟩ := sa w1 fun t ht => let ⟨p, hp, hl⟩ := PyData.shownKv_key_le ds t ht; Nat.le_trans hl (Nat.le_trans (dictText_mem_le hp) sz)
  obtain ⟨b2, m2, k2⟩ := sb w2 fun t ht => let ⟨p, hp, hl⟩ := PyData.shownKv_val_le ds t ht; Nat.le_trans hl (Nat.le_trans (dictText_mem_le hp) sz)
  have m := (m1.mono (PyData.depthAll_keys_le ds)).append (m2.mono (PyData.depthAll_vals_le ds))
  refine wpAny_pyReprObj_slot (by omega) ⟨_, gg, ex.1⟩ F.slot_dict_repr ?_
  refine call_dict_reprK (s := s1) gg ex.1 e sys (not_mem_of_deeper R (by rw [PyData.depth]; omega) m) (ReprEntriesK.of_two es.toList _ _ (k1.more_le (fun b hb => List.mem_append_left _ hb) (PyData.depthAll_keys_le ds)) (k2.more_le (fun b hb => List.mem_append_right _ hb) (PyData.depthAll_vals_le ds)))
    hq (ho.clear (hol.free I1 (ReadAtMost.cons R (by rw [PyData.depth]; omega) m))) (show X.A.units + (PyData.depthKv ds + 1) < cLine by omega) (fun _ _ z => z) (fun h' t tk hk => ?_) (by rw [← PyData.shownKv_eq]; exact sz)
  refine ⟨_, _, rfl, ?_⟩
  rw [PyData.shown, PyData.shownKv_eq] at q
  rw [PyData.shownKv_eq] at sz
  exact wpAny_formatField_str ⟨.str _, H1, (I1.kept (t' := tk) hk).tok _, ⟨_, rfl⟩, q⟩ ⟨.str _, H1, (I1.kept (t' := tk) hk).tok _, ⟨_, rfl⟩, q⟩ sz
/-! ### the loop -/
theorem self_callQ {X : Cx} {pins : List (Addr × Obj)} {σ : L2.St} {H : Hp} {s : Shared} {a f : Addr} {k : Nat} {fd : FuncData} {sp : Sp} {A : Around} {Q : VK} {R : Value → Shared → Prop} {E : Value → Shared → Prop} {g : List Code}
    (F : FnQ g X.prog X.w X.K X.mg X.base CX0 k f fd ["self"] sp) (hb : Binds X.K fd ["self"] []) (hq : A.guards = some g) (hr : Room k A) (e0 : Env0 X.prog X.w X.K X.mg X.base A X.stack s H) (I : Inv X pins σ H s) (h : sp [.ref a] H Q E0)
    (k : ∀ v u H' s', Inv X pins σ H' s' → RelV v u → Q v H' → R u s') : wpAny (model X.prog X.w) A (call (.ref f) [.ref a]) R E s := by
  refine wpAny_call (codeAny_mono (F.goes A X.stack s H ⟨[.ref a], []⟩ [.ref a] [.ref a] Q E0 hq hr e0 (by
    have z := hb s [.ref a] I.kIn rfl
    simpa using z) (.cons rfl .nil) h) fun res s' z => ?_)
  match res, z with
  | .error _, z => exact z.elim
  | .ok .next, z => exact False.elim z
  | .ok .brk, z => exact False.elim z
  | .ok .cont, z => exact False.elim z
  | .ok (.ret u), z =>
    obtain ⟨v, H', I', rv, q⟩ := I.after z
    exact k v u H' s' I' rv q
theorem ifBoundBy_K {M : Model} {A : Around} {E : Value → Shared → Prop} {s : Shared} {K : PySem.W.Frag} {x C f : Addr} {ox : Obj} {od : Option Obj} {name : Str} {last : Value → List Value → Sem Value} {Q : Option Value → Shared → Prop} (X : K.In s.heap) (I : PySem.W.InstAt s.heap x ox C od) (hs : PySem.W.findIn K (.ref C) name = some (some (.ref f))) (hf : PySem.W.isFn K (.ref f) = true)
    (h : wpAny M A (last (.ref f) [.ref x]) (fun v => Q (some v)) E s) : wpAny M A (callSpecialIfBoundBy? last (.ref x) name) Q E s := by
  simp only [callSpecialIfBoundBy?, bindSpecialIfBound?]
  refine wpAny_holding (wpAny_bind (wpAny_bind (wpAny_bind (I.type.here ((PySem.W.looks_findIn X hs).here ?_)))))
  have fin : wpAny M A (last (.ref f) [.ref x] >>= fun v => pure (some v)) Q E s := wpAny_bind (wpAny_mono h (fun v s' h' => wpAny_pure h') fun _ _ h' => h')
  refine wpAny_bind (wpAny_askSetting (wpAny_ite ?_))
  split
  · exact wpAny_bind ((PySem.W.bind_fn X _ (beq_iff_eq.mp hf)).here (wpAny_pure (by exact fin)))
  · exact wpAny_tryCatch (wpAny_bind ((PySem.W.bind_fn X _ (beq_iff_eq.mp hf)).here (wpAny_pure (by exact fin))))
/-- an own object's text within a text -/
theorem under_own {M : Model} {A : Around} {E : Value → Shared → Prop} {s : Shared} {K : PySem.W.Frag} {x C f : Addr} {ox : Obj} {od : Option Obj} {b : Nat} {Q : Str → Shared → Prop} (hbz : b ≤ sizeLine) (hu : A.units < cLine) (X : K.In s.heap) (I : PySem.W.InstAt s.heap x ox C od) (hs : PySem.W.findIn K (.ref C) "__repr__" = some (some (.ref f))) (hf : PySem.W.isFn K (.ref f) = true)
    (h : wpAny M A (call (.ref f) [.ref x]) (fun v s' => ∃ z u, v = .str z u ∧ Q z s') E s) : wpAny M A (pyReprUnder b (.ref x)) Q E s := by
  refine wpAny_pyReprUnder_ref hbz ?_
  unfold pyReprObjUnder pyReprObjBy
  refine wpAny_bind (wpAny_cRoomFor hu ?_)
  have look : PySem.W.Looks M s.heap (specialOf (.ref x) "__repr__") (some (.ref f)) := I.type.andThen (PySem.W.looks_findIn X hs)
  refine wpAny_bind (look.at ?_)
  refine wpAny_bind (ifBoundBy_K X I hs hf ?_)
  show wpAny M A (call (.ref f) [.ref x]) _ E s
  refine wpAny_mono h (fun v s' hv => ?_) fun _ _ x => x
  obtain ⟨z, u, rfl, q⟩ := hv
  exact wpAny_bind (wpAny_isInstance (T := "str") (b := true) rfl isSubtype_str_str (wpAny_pure ⟨z, u, rfl, q⟩))
theorem room_loop {k : Nat} {A : Around} (r : Room (k + 1) A) (args : Args) : Room k (A.under (.builtin "list.__repr__.loop" args)) := by
  refine ⟨r.hd, ?_, ?_⟩
  · have d := r.dp
    have w : (A.under (.builtin "list.__repr__.loop" args)).depth = A.depth + 1 := by
      simp [Around.under, Code.weight, Code.isCreation, Code.isGuard, Code.isCaller, Code.frames, Code.isFrame, guardIds]
    rw [w]
    omega
  · have u := r.un
    rw [units_under_list_loop]
    omega
theorem env_loop {P : Program} {w : World} {K : PySem.W.Frag} {mg : Str → Option Value} {base : Heap} {A : Around} {outer : List Env} {s : Shared} {H : Hp} (e : Env0 P w K mg base A outer s H) (args : Args) : Env0 P w K mg base (A.under (.builtin "list.__repr__.loop" args)) outer s H := ⟨e.frames, e.mod, e.bs, e.bsz, e.funs, e.frf, e.hok, e.bare⟩
end Cr
/-! repr([data, o]): the loop -/
namespace Cr
open PySem PySem.Spec PyProof.Rows L2 Evl
open Builtin Builtin.List in
theorem loop_at {prog : Program} {w : World} {A : Around} {R : Result → Shared → Prop} {a P : Addr} {items : Array Value} {i signs : Nat} {s : Shared} {oa : Obj} {na : Nat} {x : Value} (ha : s.heap.get? a = some oa) (hda : oa.data = .seq items na) (hx : items[i]? = some x)
    (h : wpAny (model prog w) (A.under (.builtin "list.__repr__.loop" ⟨[.ref a, rawInt i, .ref P, rawInt ((signs : Nat) : Int)], []⟩)) (pyReprUnder (signs + 1) x) (fun t s1 => t.length ≤ sizeLine ∧ ∃ acc c, s1.heap.get? P = some { cls := .type "list", dict := none, data := .seq acc c, slots := #[] } ∧ acc.size ≤ sizeLine ∧
      codeAny (model prog w) A (.builtin "list.__repr__.loop" ⟨[.ref a, rawInt ((i + 1 : Nat) : Int), .ref P, rawInt ((signs + (t.length + 2) : Nat) : Int)], []⟩) R { s1 with heap := s1.heap.update P (Obj.mapSeq (·.push (.str t s1.toks))), toks := s1.toks + 1 }) (fun e s' => R (.error e) s') s) :
    codeAny (model prog w) A (.builtin "list.__repr__.loop" ⟨[.ref a, rawInt i, .ref P, rawInt ((signs : Nat) : Int)], []⟩) R s := by
  refine codeAny_builtin F.entry_list_repr_loop ?_
  show wpAny _ _ («list.__repr__.loop» ⟨[.ref a, .int i 0, .ref P, .int ((signs : Nat) : Int) 0], []⟩) _ _ s
  rw [repr_loop_tree]
  refine wpAny_bind (wpAny_listItems ha hda ?_)
  have hsome : items[(i : Int).toNat]? = some x := by simpa using hx
  simp only [hsome]
  rw [Int.toNat_natCast]
  refine wpAny_bind (wpAny_holding (wpAny_mono h (fun t s1 z => ?_) fun _ _ z => z))
  obtain ⟨tl, acc, c, hP, az, hc⟩ := z
  refine wpAny_bind (wpAny_mkStr ?_ tl)
  refine wpAny_bind ?_
  show wpAny _ _ (updateSeq P _) _ _ _
  refine wpAny_updateSeq hP rfl (wpAny_pure ⟨F.quiet_list_repr_loop _, ?_⟩) az
  have e1 : ((i : Int) + 1) = ((i + 1 : Nat) : Int) := by omega
  rw [e1]
  exact hc
open Builtin Builtin.List in
theorem loop_end {prog : Program} {w : World} {A : Around} {R : Result → Shared → Prop} {a P : Addr} {items : Array Value} {i signs : Nat} {s : Shared} {oa : Obj} {na c : Nat} {acc : Array Value} {done : List (Str × Tok)} {ts : List Str} (ha : s.heap.get? a = some oa) (hda : oa.data = .seq items na) (hx : items[i]? = none)
    (hP : s.heap.get? P = some { cls := .type "list", dict := none, data := .seq acc c, slots := #[] }) (hacc : acc.toList = strValues done) (hts : done.map (·.1) = ts) (sz : (listText ts).length ≤ sizeLine)
    (h : ∀ u tk, R (.ok (.ret (.str (listText ts) u))) { s with toks := tk }) :
    codeAny (model prog w) A (.builtin "list.__repr__.loop" ⟨[.ref a, rawInt i, .ref P, rawInt ((signs : Nat) : Int)], []⟩) R s := by
  refine codeAny_builtin F.entry_list_repr_loop ?_
  show wpAny _ _ («list.__repr__.loop» ⟨[.ref a, .int i 0, .ref P, .int ((signs : Nat) : Int) 0], []⟩) _ _ s
  rw [repr_loop_tree]
  refine wpAny_bind (wpAny_listItems ha hda ?_)
  have hnone : items[(i : Int).toNat]? = none := by simpa using hx
  simp only [hnone]
  unfold reprEnd
  refine wpAny_bind (wpAny_listItems hP rfl ?_)
  rw [hacc, repr_fold]
  refine wpAny_bind (wpAny_pure ?_)
  rw [hts]
  refine wpAny_bind (wpAny_mkStr (wpAny_pure ?_) sz)
  exact h _ _
def rReprLO (C : Addr) (sp : Addr → Sp) : List V → Hp → VK → Prop := fun xs H Q => ∃ (a x dx : Addr) (v : V) (d : PyData) (fs : List (Str × V)), xs = [.ref a] ∧ H a = some (.lst [v, .ref x]) ∧ Dt H v d ∧ Fits d ∧ d.shown.length + 20 ≤ sizeLine ∧ H x = some (.ins C dx fs) ∧
  sp a [.ref x] H (fun u H' => ∃ z : Str, u = .str z ∧ d.shown.length + z.length + 20 ≤ sizeLine ∧ H' a = some (.lst [v, .ref x]) ∧ Q (.str (listText [d.shown, z])) H') E0
theorem listText_two (t z : Str) : (listText [t, z]).length = t.length + z.length + 4 := by
  unfold listText textFrom textFrom textFrom
  simp [Str.length_append]
  have l1 : ("[" : Str).length = 1 := by decide +kernel
  have l2 : ("]" : Str).length = 1 := by decide +kernel
  have l3 : (", " : Str).length = 2 := by decide +kernel
  have l4 : ("" : Str).length = 0 := by decide +kernel
  omega
theorem call_reprLO {X : Cx} {C f : Addr} {k : Nat} {fd : FuncData} {sp : Addr → Sp} (hL : PySem.W.findIn X.K (.ref C) "__repr__" = some (some (.ref f))) (iF : PySem.W.isFn X.K (.ref f) = true)
    (FF : ∀ g a, OnlyAt g a → FnQ g X.prog X.w X.K X.mg X.base CX0 k f fd ["self"] (sp a)) (hb : Binds X.K fd ["self"] []) (hq : Quiet X.A) (hr : Room (k + 3) X.A) : CallR X (.builtin "repr") (rReprLO C sp) := by
  intro pins s σ H xs us Q I r h
  obtain ⟨a, x, dx, v, d, fs, rfl, ha, hd, fit, dz, hx, h⟩ := h
  obtain ⟨u, rfl, ru⟩ := vals1 r
  obtain rfl : u = Value.ref a := ru
  have hu := hr.units
  obtain ⟨_, its, n, rv, g⟩ := (show ObjOk X.prog X.w H s.heap a (.lst [v, .ref x]) from I.hok a _ ha)
  obtain ⟨uv, ux, rfl, r1, r2⟩ : ∃ uv ux, its = [uv, ux] ∧ RelV v uv ∧ RelV (.ref x) ux := by
    cases rv with
    | cons a1 b1 =>
      cases b1 with
      | cons a2 b2 =>
        cases b2
        exact ⟨_, _, rfl, a1, a2⟩
  obtain rfl : ux = Value.ref x := r2
  obtain ⟨_, shd⟩ := Dt.shown I hd r1
  obtain ⟨bs, m, kd⟩ := shd fit.show1 fit.size
  have hol : HoldsO H a := ⟨_, x, C, dx, fs, ha, by simp, hx⟩
  have na := hol.free I m
  refine call_repr_slot (by omega) ⟨_, g, rfl⟩ F.slot_list_repr.toG ?_
  refine wpAny_call (codeAny_call_builtin F.slot_list_repr.plain F.entry_list_repr (F.slot_list_repr.check _ _ _ _ _ _ _ _ ⟨_, g, rfl⟩ (F.args_list_repr_1 _) ?_))
  refine wpAny_list_repr_head (A := X.A.in1.in1) hq (fun v rest kw hm => nomatch hm) g rfl ?_
  refine wpAny_bind (m := newList []) (wpAny_newObj_type ?_)
  refine wpAny_pure ⟨F.quiet_list_repr_loop _, ?_⟩
  -- the data
  have aP : a ≠ s.heap.objs.size := Nat.ne_of_lt (Heap.lt_size g)
  have zP : H s.heap.objs.size = none := I.fresh
  have I0 : Inv X pins σ H { s with heap := s.heap.push { cls := .type "list", dict := none, data := .seq #[] 0, slots := #[] } } := I.kept (t' := s.toks) fun b o e => Heap.get?_push_of_some _ e
  have dp := fit.deep
  refine loop_at (i := 0) (signs := 0) (x := uv) (Heap.get?_push_of_some _ g) rfl (by simp) ?_
  refine kd 1 (by omega) _ _ _ _ _ (guards_under_guard (isGuard_list_loop _) hq) (fun b hb => (Clear.nil b).cons (a := a) fun e => na (e ▸ hb)) (by rw [units_under_list_loop]; show X.A.units + 1 + 1 + d.depth < cLine; omega) (fun b o e => Heap.get?_push_of_some _ e) fun h1 tk1 k1 => ?_
  have hP1 := k1 _ _ (Heap.get?_push_size (o := { cls := .type "list", dict := none, data := .seq #[] 0, slots := #[] }) s.heap rfl)
  refine ⟨by omega, #[], 0, hP1, by simp, ?_⟩
  have I1 : Inv X pins σ H { s with heap := h1, toks := tk1 } := I0.kept (t' := tk1) k1
  have fp := I.fpOk (Nat.le_refl _) zP
  have J1 : Inv X pins σ H { s with heap := h1.update s.heap.objs.size (Obj.mapSeq (·.push (.str d.shown tk1))), toks := tk1 + 1 } := Inv.turned (s := { s with heap := h1, toks := tk1 }) (t' := tk1 + 1) I1 (it := s.heap.objs.size) (fun b o hb e => (Heap.get?_update_other _ _ (Ne.symm hb)).trans e) fp.1 fp.2.1 fp.2.2.2.1 fp.2.2.2.2.1 fp.2.2.2.2.2
  have hP2 : (h1.update s.heap.objs.size (Obj.mapSeq (·.push (.str d.shown tk1)))).get? s.heap.objs.size = some _ := Heap.get?_update_self _ hP1 rfl
  have J2 := J1.pins_of (pins' := pins ++ [(s.heap.objs.size, _)]) fun p hp => (List.mem_append.mp hp).elim (fun z => J1.pin p (List.mem_append_right _ z)) fun z => by
    rw [List.mem_singleton.mp z]
    exact ⟨hP2, fp.1, fp.2.1, fp.2.2.1, fun v z => nomatch z⟩
  obtain ⟨mA, J, _⟩ := ins_get J2.hok hx
  obtain ⟨od, J, _⟩ := J.look
  have g2 := ((Heap.get?_update_other _ (Obj.mapSeq (·.push (.str d.shown tk1))) (fun h : s.heap.objs.size = a => aP h.symm)).trans (k1 _ _ (Heap.get?_push_of_some _ g)))
  refine loop_at (i := 1) (signs := 0 + (d.shown.length + 2)) (x := .ref x) g2 rfl (by simp) ?_
  refine under_own (by omega) (by rw [units_under_list_loop]; show X.A.units + 1 + 1 < cLine; omega) J2.kIn J hL iF ?_
  refine self_callQ (FF _ a fun id v rest kw m => by
    rw [List.mem_singleton] at m
    cases m
    rfl) hb (guards_under_guard (isGuard_list_loop _) hq) (room_loop (show Room (k + 1) X.A.in1 from (hr.mono (by omega : k + 2 ≤ k + 3)).in1) _) (env_loop (Env0.in1 J2.env0) _) J2 h ?_
  rintro v1 u1 H' s' I' rv1 ⟨z, rfl, zz, ha', q⟩
  obtain ⟨t1, rfl⟩ := rv1
  refine ⟨z, t1, rfl, by omega, _, _, (I'.pin _ (List.mem_append_right _ (List.mem_append_right _ List.mem_cons_self))).1, by simp [sizeLine_eq], ?_⟩
  have pf := (I'.pin _ (List.mem_append_right _ (List.mem_append_right _ List.mem_cons_self))).2.1
  have pg := (I'.pin _ (List.mem_append_right _ (List.mem_append_right _ List.mem_cons_self))).1
  have L1 : Inv X pins σ H' { s' with heap := s'.heap.update s.heap.objs.size (Obj.mapSeq (·.push (.str z s'.toks))), toks := s'.toks + 1 } := I'.unpinned.turned (t' := s'.toks + 1) (it := s.heap.objs.size) (fun b o hb e => (Heap.get?_update_other _ _ (Ne.symm hb)).trans e) pf fp.2.1 fp.2.2.2.1 fp.2.2.2.2.1 fp.2.2.2.2.2
  obtain ⟨_, its3, n3, rv3, g3⟩ := (show ObjOk X.prog X.w H' _ a (.lst [v, .ref x]) from L1.hok a _ ha')
  have l3 := rv3.length
  refine loop_end (i := 2) (done := [(d.shown, tk1), (z, s'.toks)]) (ts := [d.shown, z]) g3 rfl (by simpa using Nat.le_of_eq l3.symm) (Heap.get?_update_self _ pg rfl) (by simp [strValues]) rfl (by rw [listText_two]; omega) fun u tk => ?_
  exact ⟨_, _, rfl, .str _, H', L1.tok _, ⟨_, rfl⟩, q⟩
end Cr
/-! libraries: repr while a list that holds one is shown -/
namespace Cr
open PySem PySem.Spec PyProof.Rows L2 Evl
def spLReprQ (C a0 : Addr) : Sp := fun vs H Q _ => ∃ x L, vs = [.ref x] ∧ LbAt C H x L ∧ Fits (libD L) ∧ (libD L).shown.length ≤ 16000000 ∧ HoldsO H a0 ∧ ∀ H', Ex H H' → Q (.str (reprL L)) H'
section
variable {P : Program} {w : World} {K : PySem.W.Frag} {mg : Str → Option Value} {base : Heap}
theorem ok_lreprQ {g : List Code} {a0 f C : Addr} {fd : FuncData} {k : Nat} (hg : OnlyAt g a0) (F : Fun K "__repr__" "Library.__repr__" sLRepr f fd) (T : LbC K mg C) : FnQ g P w K mg base CX0 (k + 1) f fd ["self"] (spLReprQ C a0) := by
  refine okQ F scLRepr (fun vs H Q E h => by obtain ⟨_, _, rfl, _⟩ := h; rfl) (fun cdv A outer s H vs Q E hq hr h => ?_)
  obtain ⟨x, L, rfl, lb, ft, sz, ho, q⟩ := h
  obtain ⟨dx, dd, kvs, o1, o2, o3⟩ := lb.ob
  refine ⟨_, pss_one (ps_ret (pe_joined (PJ.cons pe_str (PJ.cons (pe_fmtDctQ (a0 := a0) hq hg hr.units (pe_fld (pv 0) rfl)) (PJ.cons pe_str PJ.nil))))), ?_⟩
  have l1 : (Str.empty ++ ("Library(" : Str)).length = 8 := by decide +kernel
  have l2 : ((")" : Str)).length = 1 := by decide +kernel
  refine ⟨_, rfl, by rw [sizeLine_eq]; decide +kernel, ⟨.ref x, rfl, x, C, dx, _, .ref dd, rfl, o1, T.cl, T.nI, rfl, dd, kvs, _, rfl, o2, o3, ft, ho, _, rfl, ?_, _, rfl, ?_, q H (Ex.refl H)⟩⟩
  · have sz' : (PyData.dict (L.map fun r => (PyData.str r.1, progD r.2))).shown.length ≤ 16000000 := sz
    rw [Str.length_append, l1, sizeLine_eq]
    omega
  · have sz' : (PyData.dict (L.map fun r => (PyData.str r.1, progD r.2))).shown.length ≤ 16000000 := sz
    rw [Str.length_append, Str.length_append, l1, l2, sizeLine_eq]
    omega
end
end Cr
/-! a dict of programs that grows while the pot is drawn from -/
namespace Cr
open PySem PySem.Spec PyProof.Rows L2 Evl
theorem prog_wop {H : Hp} {p : Addr} {v : V} {pr : Prog} (pot : Pot H p) (w : ∀ ds ∈ pr, isStep (.tuple ds) = true) (h : Dt H v (progD pr)) : Dt (wo p H) v (progD pr) := by
  obtain ⟨i, j, hp, _⟩ := pot
  exact prog_wo hp h w
structure Grow (p : Addr) (HB H : Hp) (F : Addr) (kv : List (Key × V)) (M : Lib) : Prop where
  dr : Drew p HB H
  zF : HB F = none
  fp : F ≠ p
  hF : H F = some (.dK kv)
  at_ : LKv (wo p H) kv M
  st : StepsV M
theorem Grow.ex {p : Addr} {HB H H' : Hp} {F : Addr} {kv : List (Key × V)} {M : Lib} (g : Grow p HB H F kv M) (e : Ex H H') : Grow p HB H' F kv M :=
  ⟨g.dr.trans (Drew.of g.dr.pot e), g.zF, g.fp, e _ _ g.hF, DtKv.ex (Ex.wo e) g.at_, g.st⟩
theorem Grow.drew {p : Addr} {HB H H' : Hp} {F : Addr} {kv : List (Key × V)} {M : Lib} (g : Grow p HB H F kv M) (r : Drew p H H') : Grow p HB H' F kv M :=
  ⟨g.dr.trans r, g.zF, g.fp, r.at g.fp g.hF, DtKv.ex r.ex g.at_, g.st⟩
theorem Grow.put {p : Addr} {HB H : Hp} {F : Addr} {kv : List (Key × V)} {M : Lib} (g : Grow p HB H F kv M) {n : Str} {v : V} {pr : Prog} (l : M.length ≤ 1000) (nin : n ∉ M.map (·.1)) (w : ∀ ds ∈ pr, isStep (.tuple ds) = true) (hv : Dt H v (progD pr)) :
    DPut H F (.str n) v (upd H F (.dK (kv ++ [(Sum.inr n, v)]))) ∧ Grow p HB (upd H F (.dK (kv ++ [(Sum.inr n, v)]))) F (kv ++ [(Sum.inr n, v)]) (M ++ [(n, pr)]) := by
  have nin2 : (Sum.inr n : Key) ∉ kv.map (·.1) := by
    rw [lkv_keys g.at_]
    intro z
    obtain ⟨r, hr, er⟩ := List.mem_map.mp z
    exact nin (by rw [← Sum.inr.inj er]; exact List.mem_map_of_mem hr)
  have kp : KeepLT (wo p H) (wo p (upd H F (.dK (kv ++ [(Sum.inr n, v)])))) := keep_but (dd := F) (fun a o h hb => by rw [upd_ne (fun e => h (by rw [e]; exact List.mem_singleton.mpr rfl))]; exact hb) g.hF
  refine ⟨?_, g.dr.mut g.zF g.fp, g.zF, g.fp, upd_same, lkv_snoc (n := n) (Dt.keepLT kp (ndt_prog w) (prog_wop g.dr.pot w hv)) (lkv_keep kp g.st g.at_), fun r hr => ?_⟩
  · have z := DPut.k (k := Sum.inr n) (v := v) g.hF (by rw [lkv_len g.at_, sizeLine_eq]; omega)
    rw [putK_new nin2] at z
    exact z
  · rcases List.mem_append.mp hr with h | h
    · exact g.st r h
    · rw [List.mem_singleton.mp h]; exact w
end Cr
/-! what is shown of names, numbers, steps: few signs, and plain ones -/
namespace Cr
open PySem PySem.Spec PyProof.Rows L2 Evl
theorem nm_sz8 {x : Str} (h : isNameS x = true) : Sz 8 0 (.str x) := sz_str (low_free h).1 fun c hc => by have := (name_okT h).1 c hc; omega
theorem step_sz8 {ds : List PyData} (h : isStep (.tuple ds) = true) (hi : ∀ i, PyData.int i ∈ ds → i.natAbs ≤ 10 ^ 30) : Sz 36 1 (.tuple ds) := by
  obtain ⟨l4, wy⟩ := step_wordy h
  refine (sz_tuple (sza_all (b := 8) (m := 0) fun d hd => ?_)).mono (Nat.mul_le_mul_left 9 l4) (Nat.le_refl _)
  have w := wy d hd
  cases d with
  | int i => exact sz_int (Nat.le_trans (hi i hd) (by decide))
  | str x => exact nm_sz8 (step_str h hd)
  | _ => exact nomatch w
theorem prog_sz8 {p : Prog} (v : ProgV p) {n : Nat} (l : p.length ≤ n) : Sz (37 * n) 2 (progD p) := by
  refine (sz_list (sza_all (b := 36) (m := 1) fun d hd => ?_)).mono ?_ (Nat.le_refl _)
  · obtain ⟨ds, hds, rfl⟩ := List.mem_map.mp hd
    exact step_sz8 (v.st ds hds) (v.it ds hds)
  · rw [List.length_map]
    exact Nat.mul_le_mul_left _ l
theorem szk_all {a b m : Nat} : ∀ {es : List (PyData × PyData)}, (∀ e ∈ es, Sz a m e.1 ∧ Sz b m e.2) → SzK ((a + b + 2) * es.length) m es
  | [], _ => ⟨rfl, rfl, Nat.zero_le _, Nat.zero_le _⟩
  | (k, d) :: r, h => by
    have z := szk_cons (h (k, d) List.mem_cons_self).1 (h (k, d) List.mem_cons_self).2 (szk_all fun x hx => h x (List.mem_cons_of_mem _ hx))
    refine ⟨z.sh, z.lf, Nat.le_trans z.bk (Nat.le_of_eq ?_), z.dp⟩
    rw [List.length_cons, Nat.mul_succ, Nat.add_comm]
theorem lib_sz8 {L : Lib} (v : LibV L) (l10 : ∀ r ∈ L, r.2.length ≤ 10) : Sz 15200 3 (libD L) := by
  refine (sz_dict (szk_all (a := 8) (b := 370) (m := 2) fun e he => ?_)).mono ?_ (Nat.le_refl _)
  · obtain ⟨r, hr, rfl⟩ := List.mem_map.mp he
    exact ⟨(nm_sz8 (v.nm r hr)).mono (Nat.le_refl _) (by decide), prog_sz8 (v.ok r hr) (l10 r hr)⟩
  · rw [List.length_map]
    exact Nat.mul_le_mul_left 380 v.l40
theorem shown_le8 {b m : Nat} {d : PyData} (h : Sz b m d) : d.shown.length ≤ 82 * b + 80 := by
  have z := PyData.shown_le_bulk 80 (by decide) d h.lf
  have y := h.bk
  omega
end Cr
/-! [e for name in d], d a dict of programs that is locked meanwhile -/
/-! k55: the law -/
namespace Cr
open PySem PySem.Spec PyProof.Rows L2 Evl
abbrev sLaw : Stmt := topS 64
abbrev nLaw : List Str := ["_law_script", "_law_index", "_law_pot_here", "_law_modules_here", "_law_labels", "_law_made", "_law_mains", "_law_name", "_law_kept", "_law_whole", "_law_turn", "_law_turned"]
theorem scLaw : FnScope nLaw ["_law_script"] (defScope sLaw) := ⟨rfl, rfl, rfl, by decide +kernel, rfl, by decide +kernel, by decide +kernel⟩
def spLaw (K : PySem.W.Frag) : Sp := fun vs H Q _ => ∃ (a : Addr) (ns : List Int), vs = [.ref a] ∧ SqL K H a (ns.map V.int) ∧ ns.length ≤ 63 ∧ ∀ H', Q (.bl true) H'
structure HasReprQ (P : Program) (w : World) (K : PySem.W.Frag) (mg : Str → Option Value) (base : Heap) (k : Nat) (C : Addr) : Prop where
  ex : ∃ f fd, (∀ g a, OnlyAt g a → FnQ g P w K mg base CX0 k f fd ["self"] (spLReprQ C a)) ∧ Binds K fd ["self"] [] ∧ PySem.W.findIn K (.ref C) "__repr__" = some (some (.ref f)) ∧ PySem.W.isFn K (.ref f) = true
theorem tup2_go {ta tb : TE} {g : TG} {tz : TS} {D : Ends} {σ : L2.St} {H : Hp} (h : ta σ H fun v H1 => tb σ H1 fun u H2 => 2 ≤ sizeLine ∧ ∀ t, H2 t = none → g (.ref t) σ (upd H2 t (.tup [v, u])) (tz D)) : tSeq (tAsg (tTup (tCons ta (tCons tb tNil))) g) tz D σ H := h
theorem tps_drew {p : Addr} {H H' : Hp} (r : Drew p H H') (pot : Pot H p) : Tps H H' := fun a ys z => r.at (fun e => by
  obtain ⟨i, j, hp, _⟩ := pot
  rw [e, hp] at z
  cases z) z
theorem lib_shown {L : Lib} (v : LibV L) (l10 : ∀ r ∈ L, r.2.length ≤ 10) : Fits (libD L) ∧ (libD L).shown.length ≤ 1300000 := by
  have z := lib_sz8 v l10
  exact ⟨z.fits (by decide) (by decide), Nat.le_trans (shown_le8 z) (by decide)⟩
theorem ev_reprLO {C : Addr} {σ : L2.St} {H : Hp} {i j : Nat} {Mn x : Addr} {L M : Lib} (hi : σ[i]? = some (some (.ref Mn))) (hj : σ[j]? = some (some (.ref x))) (hM : Dt H (.ref Mn) (libD M)) (lb : LbAt C H x L) (fM : Fits (libD M) ∧ (libD M).shown.length ≤ 1300000) (fL : Fits (libD L) ∧ (libD L).shown.length ≤ 1300000) :
    Ev (tCB (rReprLO C (spLReprQ C)) (tCons (tLst (tCons (tVar i) (tCons (tVar j) tNil))) tNil)) σ H (.str (listText [(libD M).shown, reprL L])) := fun H1 e Q q => by
  obtain ⟨dx, dd, kvs, o1, o2, o3⟩ := lb.ob
  refine ⟨.ref Mn, hi, .ref x, hj, by show 2 ≤ sizeLine; decide, fun l zl => ?_⟩
  have e2 : Ex H1 (upd H1 l (.lst [.ref Mn, .ref x])) := Ex.new zl
  have e12 := e.trans e2
  have z1 : (Str.empty ++ ("Library(" : Str)).length = 8 := by decide +kernel
  have z2 : ((")" : Str)).length = 1 := by decide +kernel
  have zz : (reprL L).length = (libD L).shown.length + 9 := by
    unfold reprL
    rw [Str.length_append, Str.length_append, z1, z2]
    omega
  have f1 := fM.2
  have f2 := fL.2
  exact ⟨l, x, dx, .ref Mn, libD M, _, rfl, upd_same, Dt.ex e12 hM, fM.1, by rw [sizeLine_eq]; omega, e12 _ _ o1, x, L, rfl, lb.ex e12, fL.1, by omega, ⟨_, x, C, dx, _, upd_same, by simp, e12 _ _ o1⟩, fun H' e' => ⟨_, rfl, by rw [zz, sizeLine_eq]; omega, e' _ _ upd_same, q H' (e2.trans e')⟩⟩
/-- main programs in another order -/
theorem perm_mains {M : Lib} {os : List Str} (nd : (M.map (·.1)).Nodup) (p : os.Perm (M.map (·.1))) : (os.map fun n => (n, progL M n)).map (·.1) = os ∧ ∀ r, r ∈ M ↔ r ∈ os.map fun n => (n, progL M n) := by
  refine ⟨by rw [List.map_map]; exact List.map_id _, fun r => ⟨fun h => ?_, fun h => ?_⟩⟩
  · have e := progL_in nd h
    exact List.mem_map.mpr ⟨r.1, p.mem_iff.mpr (List.mem_map_of_mem h), by rw [e]⟩
  · obtain ⟨n, hn, rfl⟩ := List.mem_map.mp h
    exact progL_at nd (p.mem_iff.mp hn)
abbrev rListD : List V → Hp → VK → Prop := fun xs H Q => ∃ (a : Addr) (kvs : List (Key × V)), xs = [.ref a] ∧ Rd H a (.dK kvs) ∧ ∀ p, H p = none → Q (.ref p) (upd H p (.lst (kvs.map fun kv => kV kv.1)))
/-- the main programs in a drawn order, each copied -/
theorem turned_mains {K : PySem.W.Frag} {σ : L2.St} {H : Hp} {i m j : Nat} {p Mn : Addr} {kv : List (Key × V)} {M : Lib} {Q : VK} (hi : σ[i]? = some (some (.ref p))) (hm : σ[m]? = some (some (.ref Mn))) (hj : ∀ x, wipe ((wipe σ [j]).set j (some x)) [j] = wipe σ [j]) (hjl : j < σ.length) (hwl : (wipe σ [j]).length = σ.length)
    (hmj : ∀ x, ((wipe σ [j]).set j (some x))[m]? = some (some (.ref Mn))) (hjj : ∀ x, ((wipe σ [j]).set j (some x))[j]? = some (some x)) (pot : Pot H p) (Mnp : Mn ≠ p) (hM : H Mn = some (.dK kv)) (hk : LKv H kv M) (nm : ∀ r ∈ M, isNameS r.1 = true) (l40 : M.length ≤ 40) (nd : (M.map (·.1)).Nodup) (st : StepsV M)
    (q : ∀ (os : List Str) (Td : Addr) (H1 H' : Hp), os.Perm (M.map (·.1)) → Drew p H H1 → H1 Td = none → Ex H1 H' → Dt H' (.ref Td) (libD (os.map fun n => (n, progL M n))) → Q (.ref Td) H') :
    tCB (rDictP K) (tCons (tLc (iList K (tCall spMixed [] E0 (tCons (tVar i) (tCons (tCB rListD (tCons (tVar m) tNil)) tNil)))) (gName j) tYes (tTup (tCons (tVar j) (tCons (tCB (rListK K) (tCons (tDGet (tVar m) (tVar j)) tNil)) tNil))) [j]) tNil) σ H Q := by
  have keysM : kv.map (fun kv => kV kv.1) = (M.map (·.1)).map V.str := by
    have z := congrArg (List.map kV) (lkv_keys hk)
    rw [List.map_map, List.map_map] at z
    rw [List.map_map]
    exact z
  refine ⟨.ref p, hi, .ref Mn, hm, Mn, kv, rfl, .inl hM, fun LD zLD => ?_⟩
  rw [keysM]
  have LDp : LD ≠ p := (Drew.refl pot).neq zLD
  have eL : Ex H (upd H LD (.lst ((M.map (·.1)).map V.str))) := Ex.new zLD
  have hLD' : (upd H LD (.lst ((M.map (·.1)).map V.str))) LD = some (.lst ((M.map (·.1)).map V.str)) := upd_same
  generalize upd H LD (.lst ((M.map (·.1)).map V.str)) = H12 at eL hLD'
  have r12 := Drew.of pot eL
  refine ⟨p, LD, (M.map (·.1)).map V.str, (M.map (·.1)).map PyData.str, rfl, r12.pot, LDp, hLD', dts_strs _, by rw [List.length_map, List.length_map]; omega, fun es he => strs_sha (ns := M.map (·.1)) (fun x hx => by obtain ⟨r, hr, rfl⟩ := List.mem_map.mp hx; exact nm r hr) he, fun ol bs H13 zol r13' hol pm => ?_⟩
  obtain ⟨os, eos, pos⟩ : ∃ os : List Str, bs.map (·.1) = os.map V.str ∧ os.Perm (M.map (·.1)) := by
    refine perm_strs ?_
    have z := pm.map (·.1)
    have e : (((M.map (·.1)).map V.str).zip ((M.map (·.1)).map PyData.str)).map (·.1) = (M.map (·.1)).map V.str := List.map_fst_zip (by simp)
    rw [e] at z
    exact z
  rw [eos] at hol
  have r13 := r12.trans r13'
  have hM13 := r13.at Mnp hM
  obtain ⟨i0, j0, hp, _⟩ := id pot
  have hk13 : LKv H13 kv M := DtKv.ex (wo_ex p H13) (DtKv.ex r13.ex (lkv_wo hp st hk))
  have dl := dictC_list (K := K) (tl := tC (.ref ol)) (tn := tCB (rListK K) (tCons (tDGet (tVar m) (tVar j)) tNil)) (σ := σ) (H1 := H13) (j := j) (ns := os) (Q := Q) (rowsOf H13 kv) ev_c hol (pos.nodup_iff.mpr nd) (by rw [pos.length_eq, List.length_map]; omega) hj hjl hwl (fun y hy H' e' => el_rows (ev_var (hmj _)) (ev_var (hjj _)) (.inl (e' _ _ hM13)) hk13 (pos.mem_iff.mp hy) fun c xs h => e' _ _ h) fun Td rs H14 hrs e14 ct => by
    obtain ⟨nmT, _⟩ := perm_mains nd pos
    refine q os Td H13 H14 pos r13 ct.new e14 (ct.lib (by rw [nmT]; exact hrs) (by rw [nmT]; exact pos.nodup_iff.mpr nd) fun r hr => ?_)
    obtain ⟨y, hy, rfl⟩ := List.mem_map.mp hr
    obtain ⟨_, _, _, z⟩ := rows_of hk13 (pos.mem_iff.mp hy)
    exact DtAll.ex e14 z
  exact dl
theorem out0 : outD s0S [] = .tuple [.tuple [], .tuple []] := by
  unfold outD modsS rowsS
  simp [s0S, keysA, srtS]
section
variable {P : Program} {w : World} {K : PySem.W.Frag} {mg : Str → Option Value} {base : Heap}
theorem ok_law {f C fL : Addr} {fd dL : FuncData} {k kl : Nat} (F : Fun K "law" "law" sLaw f fd) (B : Blt mg) (T : LbC K mg C) (h1 : Has P w K mg base k "_law_pot" ["_law_script", "_law_index"] (spPot K)) (h2 : Has P w K mg base k "_law_draw" ["_law_pot_here", "_law_bound"] spDraw)
    (h3 : Has P w K mg base k "_law_words" ["_law_pot_here", "_law_number"] spWords) (h4 : Has P w K mg base k "_law_modules" pLMo spLMo) (h5 : Has P w K mg base k "_law_program" pGen spGen) (h6 : HasO P w K mg base k "_law_all_done" ["_law_modules_here", "_law_mains"] (spAllD 9))
    (h7 : Has P w K mg base k "_law_mixed" ["_law_pot_here", "_law_options"] spMixed) (h8 : HasO P w K mg base k "plain_run" ["library", "mains"] (spPRun C 9)) (h9 : HasO P w K mg base k "_law_alone_right" pAl (spAl C 9)) (hR : HasReprQ P w K mg base (k - 3) C)
    (ML : Mk K C fL) (GL : FnOk P w K mg base CX0 kl fL dL ["self", "modules"] (spLInit C)) (bL : Binds K dL ["self", "modules"] []) (hkl : kl + 1 ≤ k) (hk3 : 3 ≤ k) :
    FnG P w K mg base CX0 (k + 1) f fd ["_law_script"] (spLaw K) := by
  obtain ⟨f1, d1, G1, b1, k1, g1⟩ := h1.ex
  obtain ⟨f2, d2, G2, b2, k2, g2⟩ := h2.ex
  obtain ⟨f3, d3, G3, b3, k3, g3⟩ := h3.ex
  obtain ⟨f4, d4, G4, b4, k4, g4⟩ := h4.ex
  obtain ⟨f5, d5, G5, b5, k5, g5⟩ := h5.ex
  obtain ⟨f6, d6, G6, b6, k6, g6⟩ := h6.ex
  obtain ⟨f7, d7, G7, b7, k7, g7⟩ := h7.ex
  obtain ⟨f8, d8, G8, b8, k8, g8⟩ := h8.ex
  obtain ⟨f9, d9, G9, b9, k9, g9⟩ := h9.ex
  obtain ⟨fR, dR, GR, bR, tR, iR⟩ := hR.ex
  refine okG F scLaw (fun vs H Q E h => by obtain ⟨_, _, rfl, _⟩ := h; rfl) (fun cdv A outer s H vs Q E hq hr h => ?_)
  obtain ⟨a, ns, rfl, hS, n63, q⟩ := h
  have hrl : Room (kl + 1) _ := hr.mono hkl
  have hrR : Room (k - 3 + 3) _ := hr.mono (by omega)
  have hu := hu_of hr
  refine ⟨_, pss_cons (ps_for PassesOwn.never rfl (pi_range1 (by rfl) B.range (pa_cons (pe_callB (call_max2 rfl) (by rfl) B.max bMax (pa_cons pe_int (pa_cons (pe_callB (call_min2 rfl) (by rfl) B.min bMin (pa_cons (pe_callB call_len_seq (by rfl) B.len bLen (pa_cons (pv 0) pa_nil)) (pa_cons pe_int pa_nil))) pa_nil))) pa_nil)) (pg_name (i := 1) scLaw.nd rfl (.inl rfl))
      (pss_cons (ps_set (i := 2) scLaw.nd rfl (.inl rfl) (callG (E := E0) G1 hq hr (by rfl) g1 k1 b1 .nil pass0 (pa_cons (pv 0) (pa_cons (pv 1) pa_nil))))
      (pss_cons (ps_asg (callG (E := E0) G4 hq hr (by rfl) g4 k4 b4 .nil pass0 (pa_cons (pv 2) (pa_cons pe_int (pa_cons pe_int (pa_cons pe_bl pa_nil))))) (pg_tup rfl (pgs_cons (pg_name (i := 3) scLaw.nd rfl (.inl rfl)) (pgs_cons (pg_name (i := 4) scLaw.nd rfl (.inl rfl)) pgs_nil))))
      (pss_cons (ps_asg (pe_tup (pa_cons (pe_make (E := E0) ML GL hrl (by rfl) T.at_ bL .nil pass0 (pa_cons (pv 3) pa_nil)) (pa_cons pe_dnewK pa_nil))) (pg_tup rfl (pgs_cons (pg_name (i := 5) scLaw.nd rfl (.inl rfl)) (pgs_cons (pg_name (i := 6) scLaw.nd rfl (.inr rfl)) pgs_nil))))
      (pss_cons (ps_for PassesOwn.never rfl (pi_list (callG (E := E0) G3 hq hr (by rfl) g3 k3 b3 .nil pass0 (pa_cons (pv 2) (pa_cons (pe_op op_add pe_int (callG (E := E0) G2 hq hr (by rfl) g2 k2 b2 .nil pass0 (pa_cons (pv 2) (pa_cons pe_int pa_nil)))) pa_nil)))) (pg_name (i := 7) scLaw.nd rfl (.inl rfl))
        (pss_one (ps_dput hu (pv 6) (pv 7) (callG (E := E0) G5 hq hr (by rfl) g5 k5 b5 .nil pass0 (pa_cons (pv 2) (pa_cons (pe_callTy (call_listD rfl) (by rfl) B.list bList (pa_cons (pv 3) pa_nil)) (pa_cons (pv 4) (pa_cons pe_int (pa_cons pe_bl pa_nil)))))) rfl)))
      (pss_cons (ps_par (i := 8) (j := 9) (by rfl) scLaw.nd rfl rfl (by decide) rfl rfl (pa_cons (pe_callB (call_reprLO tR iR GR bR hq hrR) (by rfl) B.repr bRepr (pa_cons (pe_lst (pa_cons (pv 6) (pa_cons (pv 5) pa_nil))) pa_nil)) (pa_cons (pe_call (E := E0) G8 hr (by rfl) g8 k8 b8 .nil pass0 (pa_cons (pv 5) (pa_cons (pv 6) pa_nil))) pa_nil)) (by rfl))
      (pss_cons (ps_if (PW.pt (pw_or (pt_cmpR op_ne (pe_callB (call_reprG hq hr.units) (by rfl) B.repr bRepr (pa_cons (pv 9) pa_nil)) (pe_callB (call_reprG hq hr.units) (by rfl) B.repr bRepr (pa_cons (pe_ix ix_tup (pe_call (E := E0) G6 hr (by rfl) g6 k6 b6 .nil pass0 (pa_cons (pv 3) (pa_cons (pv 6) pa_nil))) pe_int (fun _ _ => rfl)) pa_nil)) (nomark _))
            (pw_or1 (pt_cmpR (op_neDt hr.units) (pe_call (E := E0) G8 hr (by rfl) g8 k8 b8 .nil pass0 (pa_cons (pv 5) (pa_cons (pv 6) pa_nil))) (pv 9) (nomark _))))) (pss_one (ps_ret pe_bl)) pss_nil)
      (pss_cons (ps_for PassesOwn.never rfl (pi_range1 (by rfl) B.range (pa_cons pe_int pa_nil)) (pg_name (i := 10) scLaw.nd rfl (.inl rfl))
        (pss_cons (ps_set (i := 11) scLaw.nd rfl (.inl rfl) (pe_callTy (call_dictP (by rfl)) (by rfl) B.dict bDict (pa_cons
          (pe_lc (own := [("_law_name", 7)]) (g := gName 7) (tt := tYes) (te := tTup (tCons (tVar 7) (tCons (tCB (rListK K) (tCons (tDGet (tVar 6) (tVar 7)) tNil)) tNil))) rfl scLaw.nd (pi_list (callG (E := E0) G7 hq hr (by rfl) g7 k7 b7 .nil pass0 (pa_cons (pv 2) (pa_cons (pe_callTy (call_listD rfl) (by rfl) B.list bList (pa_cons (pv 6) pa_nil)) pa_nil)))) (blkOk_by (own := [("_law_name", 7)]) (N := nLaw) (sc := defScope sLaw) (by decide +kernel))
            (fun _ _ _ _ _ => pg_name (i := 7) scLaw.nd rfl (Or.inl rfl)) (fun _ _ _ _ _ => pts_nil) (fun _ _ _ _ _ => by exact pe_tup (pa_cons (pv 7) (pa_cons (pe_callTy (call_list_of) (by rfl) B.list bList (pa_cons (pe_dget hu (pv 6) (pv 7) (fun _ _ => rfl)) pa_nil)) pa_nil)))) pa_nil)))
        (pss_one (ps_if (pt_cmpR op_ne (pe_callB (call_reprG hq hr.units) (by rfl) B.repr bRepr (pa_cons (pe_call (E := E0) G8 hr (by rfl) g8 k8 b8 .nil pass0 (pa_cons (pv 5) (pa_cons (pv 11) pa_nil))) pa_nil)) (pe_callB (call_reprG hq hr.units) (by rfl) B.repr bRepr (pa_cons (pv 9) pa_nil)) (nomark _)) (pss_one (ps_ret pe_bl)) pss_nil))))
      (pss_one (ps_if (PW.pt (pw_or (pt_not (pt_val (pe_call (E := E0) G9 hr (by rfl) g9 k9 b9 .nil pass0 (pa_cons (pv 5) (pa_cons (pv 6) (pa_cons (pv 9) pa_nil))))))
          (pw_or (pt_cmpR (op_neDt hr.units) (pe_call (E := E0) G8 hr (by rfl) g8 k8 b8 .nil pass0 (pa_cons (pv 5) (pa_cons pe_dnewK pa_nil))) (pe_tup (pa_cons (pe_tup pa_nil) (pa_cons (pe_tup pa_nil) pa_nil))) (nomark _))
          (pw_or1 (pt_cmpR op_ne (pe_callB (call_reprLO tR iR GR bR hq hrR) (by rfl) B.repr bRepr (pa_cons (pe_lst (pa_cons (pv 6) (pa_cons (pv 5) pa_nil))) pa_nil)) (pv 8) (nomark _)))))) (pss_one (ps_ret pe_bl)) pss_nil))))))))))
    (pss_one (ps_ret pe_bl)), ?_⟩
  have cnt : ∃ N : Int, EvA (tCons (tCB rMax2 (tCons (tC (.int 1)) (tCons (tCB (fun xs H Q => ∃ i j, xs = [V.int i, V.int j] ∧ Q (.int (if j < i then j else i)) H) (tCons (tCB (rLenS K) (tCons (tVar 0) tNil)) (tCons (tC (.int 4)) tNil))) tNil))) tNil) (L2.start nLaw [.ref a]) H [.int N] ∧ 0 ≤ N ∧ N ≤ 100 := by
    refine ⟨_, ea_cons (ev_max2 ev_c (ev_cb (ea_cons (ev_cb (ea_cons (ev_var rfl) ea_nil) (rc_lenL hS)) (ea_cons ev_c ea_nil)) (fun H3 _ Q q => ⟨_, _, rfl, q H3 (Ex.refl H3)⟩))) ea_nil, ?_, ?_⟩
    · split <;> omega
    · split
      · split <;> omega
      · omega
  obtain ⟨N, hN, n0, n1⟩ := cnt
  refine q_forR1 hN ⟨n0, by omega⟩ (fun i σ' H' => (∃ y1 y2 y3 y4 y5 y6 y7 y8 y9 y10 y11, σ' = [some (.ref a), y1, y2, y3, y4, y5, y6, y7, y8, y9, y10, y11]) ∧ Ex H H') (fun H1 e1 => ⟨⟨none, none, none, none, none, none, none, none, none, none, none, rfl⟩, e1⟩) ?_ ?_
  rotate_left
  · rintro σ' Ht ⟨⟨y1, y2, y3, y4, y5, y6, y7, y8, y9, y10, y11, rfl⟩, _⟩
    exact s_ret (v := .bl true) ev_c fun H1 e1 => q H1
  rintro i σ' Ht hi ⟨⟨y1, y2, y3, y4, y5, y6, y7, y8, y9, y10, y11, rfl⟩, et⟩
  refine q_asgAny ⟨.ref a, rfl, .int (i : Int), rfl, a, ns, i, rfl, ex_l et hS, by omega, fun p H1 zp e1 pot => ?_⟩
  show tSeq _ _ _ [some (.ref a), some (.int (i : Int)), some (.ref p), y3, y4, y5, y6, y7, y8, y9, y10, y11] H1
  -- the modules
  refine q_asgGL ?_
  refine ⟨.ref p, rfl, p, 9, 10, true, rfl, pot, by decide, by decide, by decide, fun t D lb ls L H2 zt r2 ht zD Dp dD0 ok lL lP onw lbp hlb lls hls => ?_⟩
  refine pair_go ht ?_
  obtain ⟨ord, on⟩ := onw rfl
  have v := ok.v
  have sv := libOk_st v
  have svS := libOk_st (srt_v v)
  have lu := libU_of ok
  have lr := progL_v v
  have lord : ord.length ≤ 9 := by
    have := on.1.length_eq
    rw [List.length_map] at this
    omega
  have dD := dt_wo dD0
  show tSeq _ _ _ [some (.ref a), some (.int (i : Int)), some (.ref p), some (.ref D), some (.ref lb), y5, y6, y7, y8, y9, y10, y11] H2
  refine tup2_go ?_
  refine make_new (C := C) (ev_var rfl) dD ok fun x H3 zx e3 nwx => ?_
  refine fun Mn zMn => ⟨by show 2 ≤ sizeLine; decide, fun t3 zt3 => ?_⟩
  refine pair_go upd_same ?_
  have pot3 : Pot H3 p := r2.pot.ex e3
  have Mnp : Mn ≠ p := (Drew.refl pot3).neq zMn
  have g4 : Grow p H3 (upd (upd H3 Mn (.dK [])) t3 (.tup [.ref x, .ref Mn])) Mn [] [] := (show Grow p H3 (upd H3 Mn (.dK [])) Mn [] [] from ⟨Drew.of pot3 (Ex.new zMn), zMn, Mnp, upd_same, .nil, (fun r hr => nomatch hr)⟩).ex (Ex.new zt3)
  generalize upd (upd H3 Mn (.dK [])) t3 (.tup [.ref x, .ref Mn]) = H4 at g4 ⊢
  clear zt3
  have dD3 := Dt.ex e3 dD
  have lb3 := nwx.at_
  obtain ⟨kvD, hkD, hkvD⟩ := dt_dct dD3
  have hLD : LKv H3 kvD L := hkvD
  have DMn : D ≠ Mn := ne_of_none hkD zMn
  have xp : x ≠ p := fun e => by
    obtain ⟨dx, dd, kv, h1, _⟩ := lb3.ob
    obtain ⟨i0, j0, hp, _⟩ := pot3
    rw [e, hp] at h1
    cases h1
  have hlb3 := e3 _ _ hlb
  have keysD : kvD.map (fun kv => kV kv.1) = (L.map (·.1)).map V.str := by
    have z := congrArg (List.map kV) (lkv_keys hLD)
    rw [List.map_map, List.map_map] at z
    rw [List.map_map]
    exact z
  show tSeq _ _ _ [some (.ref a), some (.int (i : Int)), some (.ref p), some (.ref D), some (.ref lb), some (.ref x), some (.ref Mn), y7, y8, y9, y10, y11] H4
  refine ⟨.ref p, rfl, .ref p, rfl, p, 4, rfl, by decide, by decide +kernel, g4.dr.pot, fun c H5 c0 c4 r5 => ⟨1, c, rfl, rfl, ?_⟩⟩
  have g5' := g4.drew r5
  refine ⟨p, (1 + c).toNat, ?_, g5'.dr.pot, by omega, fun nl wn H6 znl hnl lwn ndw hwn r6 => ?_⟩
  · have e : (((1 + c).toNat : Nat) : Int) = 1 + c := by omega
    rw [e]; rfl
  have g6' := g5'.drew r6
  have nlp : nl ≠ p := (Drew.refl g5'.dr.pot).neq znl
  have nlM : nl ≠ Mn := fun e => by rw [e, g5'.hF] at znl; cases znl
  have w5 : wn.length ≤ 5 := by omega
  have w1 : 1 ≤ wn.length := by omega
  refine ⟨nl, rfl, ⟨_, sq_of hnl⟩, for_list (fun m σ' H' => ∃ (y7 : Option V) (M : Lib) (kv : List (Key × V)), σ' = [some (.ref a), some (.int (i : Int)), some (.ref p), some (.ref D), some (.ref lb), some (.ref x), some (.ref Mn), y7, y8, y9, y10, y11] ∧ Grow p H3 H' Mn kv M ∧ H' nl = some (.lst (wn.map V.str)) ∧ M.map (·.1) = wn.take m ∧ ∀ r ∈ M, isNameS r.1 = true ∧ ProgV r.2 ∧ (∀ ds ∈ r.2, okMod (L.map (·.1)) ds = true) ∧ (∀ ds ∈ r.2, isExport (.tuple ds) = false) ∧ r.2.length ≤ 10)
    ⟨y7, [], [], rfl, g6', hnl, rfl, fun r hr => nomatch hr⟩ (fun m σ' H' _ hP => by obtain ⟨_, _, _, _, _, h, _⟩ := hP; exact sq_of h) (fun m u σ' H7 hm hP => ?_) (fun σ' H7 hP => ?_)⟩
  · obtain ⟨y7, M, kv, rfl, g, hnl7, hM, hp⟩ := hP
    have hml : m < wn.length := by
      have := (List.getElem?_eq_some_iff.mp hm).1
      rw [List.length_map] at this
      exact this
    rw [List.getElem?_map, List.getElem?_eq_getElem hml] at hm
    cases hm
    have htk : wn.take (m + 1) = wn.take m ++ [wn[m]] := List.take_succ_eq_append_getElem hml
    have hmem := List.getElem_mem hml
    have nin : wn[m] ∉ M.map (·.1) := by
      rw [hM]
      intro z
      have nd := ndw
      rw [← List.take_append_drop m wn, List.nodup_append] at nd
      refine nd.2.2 _ z wn[m] ?_ rfl
      rw [List.mem_iff_getElem?]
      exact ⟨0, by rw [List.getElem?_drop, Nat.add_zero, List.getElem?_eq_getElem hml]⟩
    rw [htk]
    generalize wn[m] = nm at htk hmem nin
    have lM : M.length = m := by
      have z := congrArg List.length hM
      rw [List.length_map, List.length_take] at z
      omega
    show sDPut _ _ _ _ [some (.ref a), some (.int (i : Int)), some (.ref p), some (.ref D), some (.ref lb), some (.ref x), some (.ref Mn), some (.str nm), y8, y9, y10, y11] H7
    refine ⟨.ref p, rfl, .ref D, rfl, D, kvD, rfl, .inl (g.dr.at Dp hkD), fun tl ztl => ?_⟩
    rw [keysD]
    have e8 : Ex H7 (upd H7 tl (.lst ((L.map (·.1)).map V.str))) := Ex.new ztl
    have htl : (upd H7 tl (.lst ((L.map (·.1)).map V.str))) tl = some (.lst ((L.map (·.1)).map V.str)) := upd_same
    have tlp : tl ≠ p := (Drew.refl g.dr.pot).neq ztl
    have hnl8 := e8 _ _ hnl7
    have gz := g.ex e8
    generalize upd H7 tl (.lst ((L.map (·.1)).map V.str)) = H8 at e8 htl hnl8 gz ⊢
    refine ⟨.ref lb, rfl, p, tl, lb, L.map (·.1), ls, 10, true, rfl, gz.dr.pot, tlp, htl, by rw [List.length_map]; omega, fun y hy => by obtain ⟨r, hr, rfl⟩ := List.mem_map.mp hy; exact v.nm r hr, lbp, gz.dr.at lbp hlb3, by omega, by omega, hls, by decide, fun Dl ys vss sz H9 zDl hsz md nxs => ?_⟩
    have g9 := gz.drew md.dr
    have Dlp : Dl ≠ p := (Drew.refl gz.dr.pot).neq zDl
    obtain ⟨v1, v2, v3, v4⟩ := made_prog (by omega) md Dlp
    have v5 : ∀ ds ∈ progV vss, isExport (.tuple ds) = false := fun ds hds => by
      obtain ⟨us, hu, rfl⟩ := List.mem_map.mp hds
      exact isExp_no (md.ok us hu).1 (nxs rfl us hu)
    obtain ⟨dp, g10⟩ := g9.put (n := nm) (v := .ref Dl) (pr := progV vss) (by omega) nin v1.st (Dt.ex (wo_ex p H9) v4)
    refine ⟨.ref Mn, rfl, .str nm, rfl, Mn, _, rfl, dp, ?_⟩
    refine ⟨_, _, _, rfl, g10, ?_, by rw [List.map_append, hM]; rfl, fun r hr => ?_⟩
    · rw [upd_ne nlM]
      exact md.dr.at nlp hnl8
    · rcases List.mem_append.mp hr with h | h
      · exact hp r h
      · rw [List.mem_singleton.mp h]
        exact ⟨hwn nm hmem, v1, v2, v5, Nat.le_trans v3 hsz⟩
  obtain ⟨y7, M, kv, rfl, g, _, hM, mp⟩ := hP
  rw [List.length_map, List.take_length] at hM
  have lM : M.length = wn.length := by
    have z := congrArg List.length hM
    rw [List.length_map] at z
    exact z
  have nd : (M.map (·.1)).Nodup := by rw [hM]; exact ndw
  have vM : LibV M := ⟨fun r hr => (mp r hr).1, nd, by omega, by omega, fun r hr => (mp r hr).2.1⟩
  obtain ⟨es, sc, run⟩ := run_all ok on lord nd (fun r hr => ⟨(mp r hr).1, (mp r hr).2.1, (mp r hr).2.2.1, (mp r hr).2.2.2.1⟩)
  have mv := run.ok.v (by omega)
  have nm9 : NmS (L.map (·.1)) (labsL L) sc := run.nmS ok
  have small : Small sc es := small_of (A := 10) (R := 10) lu mv (fun r hr => Nat.le_trans (add_len r.2) (lP r hr)) (fun r hr => Nat.le_trans (add_len r.2) (mp r hr).2.2.2.2) (by
    have : 2 ^ (L.length * 10) ≤ 2 ^ 90 := Nat.pow_le_pow_right (by decide) (by omega)
    have e : 10 ^ 30 * 2 ^ 90 * 2 ^ 10 ≤ 10 ^ 70 := by decide
    exact Nat.le_trans (Nat.mul_le_mul_right _ (Nat.mul_le_mul_left _ this)) e) run.ms nm9
  have fO : Fits (outD sc es) := (out_sz small).fits (by decide) (by decide)
  have sO := out_sha small
  have fM := lib_shown vM fun r hr => (mp r hr).2.2.2.2
  have fL := lib_shown (srt_v v) fun r hr => by
    obtain ⟨m, hm, rfl⟩ := List.mem_map.mp hr
    have hm2 := (srtS_perm _).mem_iff.mp hm
    exact lP _ (progL_at v.nd hm2)
  -- what stands in each later heap
  have facts : ∀ {H'}, Drew p H7 H' → LbAt C H' x (srtL L) ∧ Dt H' (.ref D) (libD L) ∧ H' Mn = some (.dK kv) ∧ LKv H' kv M := fun {H'} r => by
    have r3 := g.dr.trans r
    refine ⟨lb3.drew r3 pot3 svS, lib_drew r3 pot3 sv dD3, r.at Mnp g.hF, ?_⟩
    exact DtKv.ex (wo_ex p H') (DtKv.ex (r.ex) g.at_)
  have facts2 : ∀ {H'}, Drew p H7 H' → PlIn C H' Mn x (srtL L) M (labsL (srtL L)) 9 es sc ∧ MdLk H' Mn D kv L M ∧ Dt H' (.ref Mn) (libD M) := fun {H'} r => by
    obtain ⟨a1, a2, a3, a4⟩ := facts r
    exact ⟨plIn_of a1 a3 a4 run ok (by omega) (lb_apart lb3 (fun o h => (g.dr.trans r).at xp h) zMn), mdlk_mk a3 a4 run.ok.ok a2 v DMn, .dct a3 a4⟩
  have rf := Drew.refl g.dr.pot
  obtain ⟨pl7, md7, dM7⟩ := facts2 rf
  obtain ⟨lb7, _, _, _⟩ := facts rf
  dsimp only
  refine q_par2 ?_
  refine ev_reprLO (i := 6) (j := 5) rfl rfl dM7 lb7 fM fL H7 (Ex.refl _) _ fun H8 e8 => ?_
  have r8 := Drew.of g.dr.pot e8
  refine evd_prun (i := 5) rfl (ev_var (i := 6) rfl) pl7 H8 e8 _ fun va H9 e9 dva => ⟨_, _, rfl, ?_⟩
  have r9 := Drew.of g.dr.pot (e8.trans e9)
  obtain ⟨W, rfl⟩ : ∃ W, va = .ref W := by
    unfold outD at dva
    cases dva
    exact ⟨_, rfl⟩
  show tSeq _ _ _ [some (.ref a), some (.int (i : Int)), some (.ref p), some (.ref D), some (.ref lb), some (.ref x), some (.ref Mn), y7, some (.str (listText [(libD M).shown, reprL (srtL L)])), some (.ref W), y10, y11] H9
  obtain ⟨kept, hkept⟩ : ∃ z, z = listText [(libD M).shown, reprL (srtL L)] := ⟨_, rfl⟩
  rw [← hkept]
  obtain ⟨pl9, md9, _⟩ := facts2 r9
  have c1 : EvT (tTest (tOp rNe (tCB rRepr (tCons (tVar 9) tNil)) (tCB rRepr (tCons (tOp (rIxT K) (tCall (spAllD 9) [] E0 (tCons (tVar 3) (tCons (tVar 6) tNil))) (tC (.int 0))) tNil)))) [some (.ref a), some (.int (i : Int)), some (.ref p), some (.ref D), some (.ref lb), some (.ref x), some (.ref Mn), y7, some (.str kept), some (.ref W), y10, y11] H9 false :=
    ne_same (evd_var rfl dva) (evd_alld0 rfl (ev_var rfl) md9 mv lu run.ms) fO
  have c2 : EvT (tTest (tOp rNeDt (tCall (spPRun C 9) [] E0 (tCons (tVar 5) (tCons (tVar 6) tNil))) (tVar 9))) [some (.ref a), some (.int (i : Int)), some (.ref p), some (.ref D), some (.ref lb), some (.ref x), some (.ref Mn), y7, some (.str kept), some (.ref W), y10, y11] H9 false :=
    et_is (et_neD (evd_prun rfl (ev_var rfl) pl9) (evd_var rfl dva) sO sO) (by rw [SeqAt.eqv_refl _ (SeqAt.canLay_of_shaped sO)]; rfl)
  refine q_when (b := false) (et_is (et_or (a := false) c1 fun _ => c2) rfl) (fun z => nomatch z) (fun _ H10 e10 => ?_)
  have r10 := r9.trans (Drew.of r9.pot e10)
  have dva10 := Dt.ex e10 dva
  have b4 : EvA (tCons (tC (.int 4)) tNil) [some (.ref a), some (.int (i : Int)), some (.ref p), some (.ref D), some (.ref lb), some (.ref x), some (.ref Mn), y7, some (.str kept), some (.ref W), y10, y11] H10 [.int 4] := ea_cons ev_c ea_nil
  refine q_forR1 b4 ⟨by decide, by decide⟩ (fun j σ' H' => (∃ y7 y10 y11, σ' = [some (.ref a), some (.int (i : Int)), some (.ref p), some (.ref D), some (.ref lb), some (.ref x), some (.ref Mn), y7, some (.str kept), some (.ref W), y10, y11]) ∧ Drew p H10 H') (fun H11 e11 => ⟨⟨_, _, _, rfl⟩, Drew.of r10.pot e11⟩) ?_ ?_
  · rintro j σ' H11 hj ⟨⟨y7, y10, y11, rfl⟩, r11'⟩
    have r11 := r10.trans r11'
    obtain ⟨lb11, dD11, hM11, hkM11⟩ := facts r11
    show tSeq _ _ _ [some (.ref a), some (.int (i : Int)), some (.ref p), some (.ref D), some (.ref lb), some (.ref x), some (.ref Mn), y7, some (.str kept), some (.ref W), some (.int (j : Int)), y11] H11
    refine q_asgAny ?_
    refine turned_mains (i := 2) (m := 6) (j := 7) rfl rfl (fun _ => rfl) (by show 7 < 12; decide) rfl (fun _ => rfl) (fun _ => rfl) r11.pot Mnp hM11 hkM11 vM.nm vM.l40 nd (fun r hr => (mp r hr).2.1.st) fun os Td H13 H14 pos r13' zTd e14 dT => ?_
    have r13 := r11.trans r13'
    obtain ⟨lb13, dD13, hM13, hkM13⟩ := facts r13
    obtain ⟨nmT, same⟩ := perm_mains nd pos
    have ndT : ((os.map fun n => (n, progL M n)).map (·.1)).Nodup := by rw [nmT]; exact pos.nodup_iff.mpr nd
    have lT : (os.map fun n => (n, progL M n)).length = M.length := by
      rw [List.length_map, pos.length_eq, List.length_map]
    generalize os.map (fun n => (n, progL M n)) = MT at same dT ndT lT
    obtain ⟨esT, scT, runT⟩ := run_all ok on lord ndT (fun r hr => by
      have z := mp r ((same r).mpr hr)
      exact ⟨z.1, z.2.1, z.2.2.1, z.2.2.2.1⟩)
    have eqO : outD sc es = outD scT esT := out_same lr (fun r hr => (mp r hr).2.1) (fun r hr => (mp r ((same r).mpr hr)).2.1) nd ndT run.ms runT.ms run.wf runT.wf same
    obtain ⟨kvT, hkT, hkvT⟩ := dt_dct dT
    have plT : PlIn C H14 Td x (srtL L) MT (labsL (srtL L)) 9 esT scT := plIn_of (lb13.ex e14) hkT hkvT runT ok (by omega) (lb_apart lb13 (fun o h => e14 _ _ h) zTd)
    have r14 := r13.trans (Drew.of r13.pot e14)
    have tp : Tps H10 H14 := tps_drew ((r11'.trans r13').trans (Drew.of r13.pot e14)) r10.pot
    have dva14 := Dt.tps tp (out_tup sc es) dva10
    show tIfS _ _ _ _ [some (.ref a), some (.int (i : Int)), some (.ref p), some (.ref D), some (.ref lb), some (.ref x), some (.ref Mn), y7, some (.str kept), some (.ref W), some (.int (j : Int)), some (.ref Td)] H14
    have d1 := evd_prun (CL := C) (i := 5) (tj := tVar 11) (σ := [some (.ref a), some (.int (i : Int)), some (.ref p), some (.ref D), some (.ref lb), some (.ref x), some (.ref Mn), y7, some (.str kept), some (.ref W), some (.int (j : Int)), some (.ref Td)]) rfl (ev_var rfl) plT
    rw [← eqO] at d1
    refine s_when (b := false) (ne_same d1 (evd_var rfl dva14) fO) (fun z => nomatch z) (fun _ H15 e15 => ?_)
    exact ⟨⟨_, _, _, rfl⟩, ((r11'.trans r13').trans (Drew.of r13.pot e14)).trans (Drew.of r14.pot e15)⟩
  · rintro σ' H11 ⟨⟨y7, y10, y11, rfl⟩, r11'⟩
    have r11 := r10.trans r11'
    obtain ⟨pl11, _, dM11⟩ := facts2 r11
    obtain ⟨lb11, _, _, _⟩ := facts r11
    have dva11 := Dt.tps (tps_drew r11' r10.pot) (out_tup sc es) dva10
    have al : Ev (tCall (spAl C 9) [] E0 (tCons (tVar 5) (tCons (tVar 6) (tCons (tVar 9) tNil)))) [some (.ref a), some (.int (i : Int)), some (.ref p), some (.ref D), some (.ref lb), some (.ref x), some (.ref Mn), y7, some (.str kept), some (.ref W), y10, y11] H11 (.bl true) := fun H1' e1' Q' q' =>
      ⟨.ref x, rfl, .ref Mn, rfl, .ref W, rfl, x, Mn, W, srtL L, M, labsL (srtL L), es, sc, rfl, pl11.ex e1', Dt.ex e1' dva11, small, fun r hr => by
        have z := mp r hr
        obtain ⟨es1, s1, run1⟩ := run_all ok on lord (M := [r]) (by simp) (fun y hy => by rw [List.mem_singleton.mp hy]; exact ⟨z.1, z.2.1, z.2.2.1, z.2.2.2.1⟩)
        exact ⟨es1, s1, (run1.srt v).ms⟩, fun H' e' => q' H' e'⟩
    have em : EvD (tCall (spPRun C 9) [] E0 (tCons (tVar 5) (tCons tDNewK tNil))) [some (.ref a), some (.int (i : Int)), some (.ref p), some (.ref D), some (.ref lb), some (.ref x), some (.ref Mn), y7, some (.str kept), some (.ref W), y10, y11] H11 (.tuple [.tuple [], .tuple []]) := fun H1' e1' Q' q' => by
      refine ⟨.ref x, rfl, fun Ep zEp => ?_⟩
      have e2' : Ex H1' (upd H1' Ep (.dK [])) := Ex.new zEp
      have lbE := lb11.ex (e1'.trans e2')
      refine ⟨Ep, x, srtL L, [], labsL (srtL L), [], s0S, rfl, plIn_of lbE upd_same .nil (Run.nil L 9) ok (by simp) (lb_apart (lb11.ex e1') (fun o h => e2' _ _ h) zEp), fun vE H' e' dv => q' vE H' (e2'.trans e') ?_⟩
      rw [← out0]
      exact dv
    have lt : EvD (tTup (tCons (tTup tNil) (tCons (tTup tNil) tNil))) [some (.ref a), some (.int (i : Int)), some (.ref p), some (.ref D), some (.ref lb), some (.ref x), some (.ref Mn), y7, some (.str kept), some (.ref W), y10, y11] H11 (.tuple [.tuple [], .tuple []]) := evd_tup (evda_cons (evd_tup evda_nil (by decide)) (evda_cons (evd_tup evda_nil (by decide)) evda_nil)) (by show 2 ≤ 1000; decide)
    have rp := ev_reprLO (C := C) (σ := [some (.ref a), some (.int (i : Int)), some (.ref p), some (.ref D), some (.ref lb), some (.ref x), some (.ref Mn), y7, some (.str kept), some (.ref W), y10, y11]) (i := 6) (j := 5) rfl rfl dM11 lb11 fM fL
    rw [← hkept] at rp
    refine s_when (b := false) (et_is (et_or (a := false) (et_is (et_not (et_B al)) rfl) fun _ => et_is (et_or (a := false) (et_is (et_neD em lt (by decide +kernel) (by decide +kernel)) (by decide +kernel)) fun _ => et_is (et_test (ev_op rp (ev_var rfl) (rv_ne rfl))) (by rw [decide_eq_true rfl]; rfl)) rfl) rfl) (fun z => nomatch z) (fun _ H12 e12 => ?_)
    exact ⟨⟨_, _, _, _, _, _, _, _, _, _, _, rfl⟩, drew_ex (et.trans e1) (fresh_back et zp) (((r2.trans (Drew.of r2.pot e3)).trans g.dr).trans (r11.trans (Drew.of r11.pot e12)))⟩
end
end Cr
/-! plain runs: the program's defs, gathered -/
namespace Cr
open PySem PySem.Spec PyProof.Rows L2 Evl
/-- a method with value by its name alone, None where it lacks -/
def MethKw (K : PySem.W.Frag) (C : Addr) (m qual : Str) (st : Stmt) : Prop := ∃ (f D : Addr) (od an : Option Addr) (sl : Array (Option Value)) (oc dc pm cd ct : Value),
  PySem.W.findIn K (.ref C) m = some (some (.ref f)) ∧ PySem.W.isFn K (.ref f) = true ∧ K.lookup f = some ⟨oc, od, .func (PySem.W.fnOf m qual (defArgs st) (defBody st) (defScope st) .none (.ref D) dc pm an cd ct), sl⟩ ∧ PySem.W.codeIn K cd qual = true ∧ PySem.W.keepIn K (.ref f) = true ∧ PySem.W.nsIn K D "value" = some (some .none)
theorem methKw {K : PySem.W.Frag} {C : Addr} {m qual : Str} {st : Stmt} {f D : Addr} {od an : Option Addr} {sl : Array (Option Value)} {oc dc pm cd ct : Value} (a : PySem.W.findIn K (.ref C) m = some (some (.ref f))) (i : PySem.W.isFn K (.ref f) = true)
    (l : K.lookup f = some ⟨oc, od, .func (PySem.W.fnOf m qual (defArgs st) (defBody st) (defScope st) .none (.ref D) dc pm an cd ct), sl⟩) (c : PySem.W.codeIn K cd qual = true) (k : PySem.W.keepIn K (.ref f) = true) (n : PySem.W.nsIn K D "value" = some (some .none)) : MethKw K C m qual st :=
  ⟨f, D, od, an, sl, oc, dc, pm, cd, ct, a, i, l, c, k, n⟩
/-- what a law uses of the program -/
structure PlHas (P : Program) (w : World) (K : PySem.W.Frag) (mg : Str → Option Value) (base : Heap) (C CL CE : Addr) (d : Nat) : Prop where
  T : LbC K mg CL
  lib : ∃ fI fdI, Mk K CL fI ∧ FnOk P w K mg base CX0 8 fI fdI ["self", "modules"] (spLInit CL) ∧ Binds K fdI ["self", "modules"] []
  run : HasO P w K mg base (10 + 3 * d) "run_mains" ["library", "mains"] (spRunMs C CL d)
  row : HasO P w K mg base 1 "module_row" ["module", "state", "exports"] spMoRow
  nm : HasO P w K mg base 1 "is_name" ["value"] (spD isName)
  chk : HasE P w K mg base 5 "check_steps" ["value", "is_main", "modules"] (spSteps CE)
  mods : HasM P w K mg base CX0 1 CL "modules" ["self"] (spLMods CL)
  R : PrC K mg C
theorem plain_mk {P : Program} {w : World} {K : PySem.W.Frag} {h : Heap} {mg : Str → Option Value} {aV aP dS CE CW CF CN CL C : Addr} {tL tS tM tN : Tok} {n : Nat} (X : K.In h) (G : h.Ns mainGlobals mg) (B : Blt mg)
    (v1 : PySem.W.nsIn K mainGlobals "VARIABLES" = some (some (.ref aV))) (v2 : KTup K aV (vars4.map V.str)) (v3 : PySem.W.nsIn K mainGlobals "LONGEST_NAME" = some (some (.int 8 tL))) (v4 : PySem.W.nsIn K mainGlobals "MOST_STEPS" = some (some (.int 30 tS))) (v8 : PySem.W.nsIn K mainGlobals "MOST_MODULES" = some (some (.int 40 tM))) (v9 : PySem.W.nsIn K mainGlobals "MOST_MAINS" = some (some (.int 8 tN)))
    (v5 : PySem.W.nsIn K mainGlobals "PLAIN_STEPS" = some (some (.ref aP))) (v7 : KTup K aP (plain3.map V.str)) (v6 : PySem.W.nsIn K mainGlobals "SHAPES" = some (some (.ref dS))) (S' : ∃ es, Shapes K w dS es n)
    (c0 : PySem.W.nsIn K mainGlobals "InvalidProgram" = some (some (.ref CE))) (e0 : ErrK P K CE xbV "InvalidProgram.__init__" "position" sInitP)
    (c1 : PySem.W.nsIn K mainGlobals "WrongStep" = some (some (.ref CW))) (e1 : ErrK P K CW xbR "WrongStep.__init__" "position" sInitW)
    (cN : PySem.W.nsIn K mainGlobals "InvalidNumber" = some (some (.ref CN))) (eN : PySem.W.excIn K CN [.type "ValueError", .type "Exception", .type "BaseException", .type "object"] "ValueError.__new__" = true) (eK : PySem.W.keepIn K (.ref CN) = true) (eB : PySem.W.subIn K (.ref CN) (.type "BaseException") = some true) (eT : PySem.W.typeIn K (.ref CN) = some (.type "type"))
    (cF : PySem.W.nsIn K mainGlobals "Frame" = some (some (.ref CF))) (kF : Cls K CF) (mF : PySem.W.makesIn K CF = true) (pF : PySem.W.keepIn K (.ref CF) = true) (nS : NoAttr K CF "steps") (nP : NoAttr K CF "position") (nM : NoAttr K CF "memory") (nV : NoAttr K CF "visited")
    (cL : PySem.W.nsIn K mainGlobals "Library" = some (some (.ref CL))) (kL : Cls K CL) (mL : PySem.W.makesIn K CL = true) (pL : PySem.W.keepIn K (.ref CL) = true) (nI : NoAttr K CL "initializers")
    (cR : PySem.W.nsIn K mainGlobals "PlainRun" = some (some (.ref C))) (kR : Cls K C) (mR0 : PySem.W.makesIn K C = true) (pR : PySem.W.keepIn K (.ref C) = true) (n1 : NoAttr K C "known_library") (n2 : NoAttr K C "started") (n3 : NoAttr K C "results") (n4 : NoAttr K C "exported")
    (dInt : DefAt K "is_integer" sIsInteger) (dName : DefAt K "is_name" sIsName) (dVar : DefAt K "is_variable" sIsVariable) (dBW : DefAt K "bare_word" sBareW) (dSM : DefAt K "step_modules" sSM) (dItem : DefAt K "is_item" sIsItem) (dBI : DefAt K "bare_item" sBareI) (dStep : DefAt K "is_step" sIsStep)
    (dBP : DefAt K "bare_program" sBareP) (dPlain : DefAt K "is_plain" sIsPlain) (dBef : DefAt K "is_step_before" sBefore) (dChk : DefAt K "check_steps" sSteps) (dC : DefKw K "check_program" sCheck) (dGv : DefAt K "given_variable" sGiven) (dCp : DefAt K "check_pair" sLPair) (dCps : DefAt K "check_pairs" sLPairs)
    (mI : MethAt K CF "__init__" "Frame.__init__" sFInit) (mN : MethAt K CF "next_step" "Frame.next_step" sFNext) (mV : MethAt K CF "variables" "Frame.variables" sFVars) (mO : MethAt K CF "is_over" "Frame.is_over" sFOver) (mMv : MethAt K CF "move" "Frame.move" sFMove) (mRp : MethAt K CF "run_plain" "Frame.run_plain" sFRun) (mP : MethKw K CF "pass_step" "Frame.pass_step" sFPass)
    (mLI : MethAt K CL "__init__" "Library.__init__" sLInit) (mMo : MethAt K CL "modules" "Library.modules" sLMods) (mHa : MethAt K CL "has_module" "Library.has_module" sLHas) (mIn : MethAt K CL "initializer" "Library.initializer" sLIni)
    (mPI : MethAt K C "__init__" "PlainRun.__init__" sPInit) (mPi : MethAt K C "initialize" "PlainRun.initialize" sPIni) (mPe : MethAt K C "execute" "PlainRun.execute" sPExec) (mPg : MethAt K C "get_past" "PlainRun.get_past" sPPast)
    (dMr : DefAt K "main_row" sMRow) (dMo : DefAt K "module_row" sMoRow) (dCm : DefAt K "check_mains" sChkM) (dRm : DefAt K "run_mains" sRunMs) (base : Heap) (d : Nat) : PlHas P w K mg base C CL CE d := by
  obtain ⟨es, S⟩ := S'
  have gV := PySem.W.mg_of X G v1
  have gL := PySem.W.mg_of X G v3
  have gS0 := PySem.W.mg_of X G v4
  have gM := PySem.W.mg_of X G v8
  have gN := PySem.W.mg_of X G v9
  have gP := PySem.W.mg_of X G v5
  have gS := PySem.W.mg_of X G v6
  have TF : FrC K mg CF := ⟨kF, nS, nP, nM, nV, PySem.W.mg_of X G cF⟩
  have TL : LbC K mg CL := ⟨kL, nI, PySem.W.mg_of X G cL⟩
  have T : PrC K mg C := ⟨kR, n1, n2, n3, n4, PySem.W.mg_of X G cR⟩
  obtain ⟨fE, fdE, EP⟩ := errAt_of (mg := mg) X G c0 e0
  obtain ⟨fW, fdW, EW⟩ := errAt_of (mg := mg) X G c1 e1
  have MP : MkNum P w K mg base CE "InvalidProgram" "position" "position" := mkP EP B
  have MW : MkNum P w K mg base CW "WrongStep" "position" "position" := mkW EW B
  have Nc : NumC K mg CN := ⟨PySem.W.mg_of X G cN, eN, eK, eB, eT⟩
  have hInt : HasO P w K mg base 1 "is_integer" ["value"] (spD isInteger) := hasO_mk X G dInt (fun _ _ _ _ _ _ us hl => match us, hl with | [_], _ => rfl) fun f fd F => ok_isInteger F B
  have hName : HasO P w K mg base 1 "is_name" ["value"] (spD isName) := hasO_mk X G dName (fun _ _ _ _ _ _ us hl => match us, hl with | [_], _ => rfl) fun f fd F => ok_isName F B gL
  have hVar : HasO P w K mg base 1 "is_variable" ["value"] (spD isVar) := hasO_mk X G dVar (fun _ _ _ _ _ _ us hl => match us, hl with | [_], _ => rfl) fun f fd F => ok_isVar F B gV v2
  have hBW : HasO P w K mg base 1 "bare_word" ["word"] spBareW := hasO_mk X G dBW (fun _ _ _ _ _ _ us hl => match us, hl with | [_], _ => rfl) fun f fd F => ok_bareW F
  have hSM : HasO P w K mg base 1 "step_modules" ["step"] spSM := hasO_mk X G dSM (fun _ _ _ _ _ _ us hl => match us, hl with | [_], _ => rfl) fun f fd F => ok_sm F B gS S
  have hItem : HasO P w K mg base 2 "is_item" ["value", "kind"] spItem := hasO_mk X G dItem (fun _ _ _ _ _ _ us hl => match us, hl with | [_, _], _ => rfl) fun f fd F => by
    obtain ⟨f1, g1, G1, b1, k1, m1⟩ := hInt.ex
    obtain ⟨f2, g2, G2, b2, k2, m2⟩ := hVar.ex
    obtain ⟨f3, g3, G3, b3, k3, m3⟩ := hName.ex
    exact ok_isItem F G1 b1 k1 m1 G2 b2 k2 m2 G3 b3 k3 m3
  have hBI : HasO P w K mg base 2 "bare_item" ["item"] spBareI := hasO_mk X G dBI (fun _ _ _ _ _ _ us hl => match us, hl with | [_], _ => rfl) fun f fd F => ok_bareI F B hBW
  have hStep : HasO P w K mg base 3 "is_step" ["value"] (spD isStep) := hasO_mk X G dStep (fun _ _ _ _ _ _ us hl => match us, hl with | [_], _ => rfl) fun f fd F => by
    obtain ⟨f1, g1, G1, b1, k1, m1⟩ := hItem.ex
    exact ok_isStep F B gS S G1 b1 k1 m1
  have hBP : HasO P w K mg base 3 "bare_program" ["program"] spBareP := hasO_mk X G dBP (fun _ _ _ _ _ _ us hl => match us, hl with | [_], _ => rfl) fun f fd F => ok_bareP F B hBI
  have hPlain : HasO P w K mg base 4 "is_plain" ["step"] (spD isPlain) := hasO_mk X G dPlain (fun _ _ _ _ _ _ us hl => match us, hl with | [_], _ => rfl) fun f fd F => by
    obtain ⟨f1, g1, G1, b1, k1, m1⟩ := hStep.ex
    exact ok_isPlain F gP v7 G1 b1 k1 m1
  have hBef : HasO P w K mg base 4 "is_step_before" ["value", "steps_after", "modules"] spBefore := hasO_mk X G dBef (fun _ _ _ _ _ _ us hl => match us, hl with | [_, _, _], _ => rfl) fun f fd F => ok_before F B hStep (hSM.up (by decide))
  have hChk : HasE P w K mg base 5 "check_steps" ["value", "is_main", "modules"] (spSteps CE) := hasE_mk X G dChk (fun _ _ _ _ _ _ us hl => match us, hl with | [_, _, _], _ => rfl) fun f fd F => ok_steps F B MP (by decide) gS0 hBef
  have hCk : HasC P w K mg base 6 CE := by
    obtain ⟨f', D', od', an', sl', oc', dc', pm', cd', ct', a', l', c', kp', m'⟩ := dC
    have F' := fun_mk (st := sCheck) l' c' kp'
    have FD : FunD K "check_program" "check_program" (defArgs sCheck) (defBody sCheck) (defScope sCheck) [] [("is_main", .bl false)] f' _ := ⟨⟨oc', od', .none, .ref D', dc', pm', an', cd', ct', sl', rfl, l', c', .inl ⟨rfl, rfl⟩, .inr ⟨D', rfl, fun q hq => by
      rw [List.mem_singleton.mp hq]
      exact ⟨_, m', rfl⟩⟩⟩, kp'⟩
    obtain ⟨ds, vd, bd⟩ := FD.binds0 (ps := ["value", "is_main"]) 1 (by decide) rfl (fun D doc pm an cdv ct us ks hu hk => by
      match us, ks, hu, hk with
      | [u], [k1], _, _ => exact ⟨_, _, _, _, _, _, rfl, rfl, rfl⟩)
    obtain ⟨mv, kb⟩ := FD.kbinds0 (ps := ["value", "is_main"]) 1 ["is_main"] [] (fun vs _ zs => vs ++ zs) (by decide) (fun q hq => nomatch hq) (fun r1 _ r3 => r1.append r3) (fun D doc pm an cdv ct us mv ws hu hm hw => by
      match us, mv, ws, hu, hm, hw with
      | [u], [], [w1], _, _, _ => rfl)
    exact ⟨⟨f', _, ok_check F' hChk, ⟨ds, vd, bd⟩, ⟨_, kb⟩, kp', PySem.W.mg_of X G a'⟩⟩
  -- frames
  have hO : HasM P w K mg base CX0 1 CF "is_over" ["self"] (spLook CF fun vss pos _ _ => .bl (decide (pos = vss.length))) := hasM_mk mO (fun _ _ _ _ _ _ us hl => match us, hl with | [_], _ => rfl) fun f fd F => ok_over F B TF
  have hN : HasM P w K mg base CX0 2 CF "next_step" ["self"] (spNext CF) := hasM_mk mN (fun _ _ _ _ _ _ us hl => match us, hl with | [_], _ => rfl) fun f fd F => ok_next F TF hO
  have hV : HasM P w K mg base CX0 1 CF "variables" ["self"] (spVars CF) := hasM_mk mV (fun _ _ _ _ _ _ us hl => match us, hl with | [_], _ => rfl) fun f fd F => ok_vars F B TF
  have hMv : HasM P w K mg base CX0 1 CF "move" ["self", "length"] (spMove CF) := hasM_mk mMv (fun _ _ _ _ _ _ us hl => match us, hl with | [_, _], _ => rfl) fun f fd F => ok_move F TF
  have hR : HasM P w K mg base (L2.CX P w) 5 CF "run_plain" ["self"] (spRun CF CW) := hasM_mk mRp (fun _ _ _ _ _ _ us hl => match us, hl with | [_], _ => rfl) fun f fd F => ok_run F TF MW (by decide) (hN.up (by decide)) hPlain (hMv.up (by decide))
  have hGv : HasO P w K mg base 1 "given_variable" ["step"] spGiven := hasO_mk X G dGv (fun _ _ _ _ _ _ us hl => match us, hl with | [_], _ => rfl) fun f fd F => ok_given F
  have hPs : PassP P w K mg base 5 CF CW CN := by
    obtain ⟨f', D', od', an', sl', oc', dc', pm', cd', ct', a', i', l', c', kp', m'⟩ := mP
    have F' := fun_mk (st := sFPass) l' c' kp'
    have FD : FunD K "pass_step" "Frame.pass_step" (defArgs sFPass) (defBody sFPass) (defScope sFPass) [] [("value", .non)] f' _ := ⟨⟨oc', od', .none, .ref D', dc', pm', an', cd', ct', sl', rfl, l', c', .inl ⟨rfl, rfl⟩, .inr ⟨D', rfl, fun q hq => by
      rw [List.mem_singleton.mp hq]
      exact ⟨_, m', rfl⟩⟩⟩, kp'⟩
    obtain ⟨ds, vd, bd⟩ := FD.binds0 (ps := ["self", "value"]) 1 (by decide) rfl (fun D doc pm an cdv ct us ks hu hk => by
      match us, ks, hu, hk with
      | [u], [k1], _, _ => exact ⟨_, _, _, _, _, _, rfl, rfl, rfl⟩)
    obtain ⟨mv, kb⟩ := FD.kbinds0 (ps := ["self", "value"]) 1 ["value"] [] (fun vs _ zs => vs ++ zs) (by decide) (fun q hq => nomatch hq) (fun r1 _ r3 => r1.append r3) (fun D doc pm an cdv ct us mv ws hu hm hw => by
      match us, mv, ws, hu, hm, hw with
      | [u], [], [w1], _, _, _ => rfl)
    exact ⟨⟨f', _, ok_pass F' B TF MW Nc (by decide) (hN.up (by decide)) hPlain (hMv.up (by decide)) (hGv.up (by decide)) (hInt.up (by decide)), ⟨ds, vd, bd⟩, ⟨_, kb⟩, a', i', kp'⟩⟩
  have hMk : MkF P w K mg base 7 CF CE := by
    obtain ⟨f, od, an, sl, oc, kV, dc, pm, cd, ct, a, i, l, c, kp, t⟩ := mI
    have F := fun_mk (st := sFInit) l c kp
    exact ⟨⟨f, _, ⟨mF, a, i, pF⟩, ok_finit F B TF gV v2 hCk (hBP.up (by decide)), F.binds (fun _ _ _ _ _ _ us hl => match us, hl with | [_, _], _ => rfl)⟩⟩
  -- the library
  have hCp : HasO P w K mg base 6 "check_pair" ["key", "value", "names"] spLPair := hasO_mk X G dCp (fun _ _ _ _ _ _ us hl => match us, hl with | [_, _, _], _ => rfl) fun f fd F => ok_lpair F (hName.up (by decide)) hChk
  have hCps : HasO P w K mg base 7 "check_pairs" ["pairs"] spLPairs := hasO_mk X G dCps (fun _ _ _ _ _ _ us hl => match us, hl with | [_], _ => rfl) fun f fd F => ok_lpairs F B gM (hName.up (by decide)) hCp
  have hL : ∃ fI fdI, Mk K CL fI ∧ FnOk P w K mg base CX0 8 fI fdI ["self", "modules"] (spLInit CL) ∧ Binds K fdI ["self", "modules"] [] := by
    obtain ⟨f, od, an, sl, oc, kV, dc, pm, cd, ct, a, i, l, c, kp, t⟩ := mLI
    have F := fun_mk (st := sLInit) l c kp
    exact ⟨f, _, ⟨mL, a, i, pL⟩, ok_linit F B TL hCps (hBW.up (by decide)) (hBP.up (by decide)), F.binds (fun _ _ _ _ _ _ us hl => match us, hl with | [_, _], _ => rfl)⟩
  have hMo : HasM P w K mg base CX0 1 CL "modules" ["self"] (spLMods CL) := hasM_mk mMo (fun _ _ _ _ _ _ us hl => match us, hl with | [_], _ => rfl) fun f fd F => ok_lmods F B TL
  have hHa : HasM P w K mg base CX0 2 CL "has_module" ["self", "value"] (spLHas CL) := hasM_mk mHa (fun _ _ _ _ _ _ us hl => match us, hl with | [_, _], _ => rfl) fun f fd F => ok_lhas F TL hName
  have hIn : HasM P w K mg base CX0 3 CL "initializer" ["self", "module"] (spLIni CL) := hasM_mk mIn (fun _ _ _ _ _ _ us hl => match us, hl with | [_, _], _ => rfl) fun f fd F => ok_lini F B TL hHa
  -- the run
  have RE : RunE P w K mg base (6 + 1) C CL CF CE CW CN := ⟨hO.up (by decide), hN.up (by decide), hV.up (by decide), hR.up (by decide), hPlain.up (by decide), hPs.up (by decide), hIn.up (by decide), hMk.up (by decide)⟩
  obtain ⟨_, hEx⟩ := runs_at (j := 6) B T TF TL mPi mPe mPg RE d
  have hMr : HasO P w K mg base 1 "main_row" ["name", "status", "variables"] spMRow := hasO_mk X G dMr (fun _ _ _ _ _ _ us hl => match us, hl with | [_, _, _], _ => rfl) fun f fd F => ok_mrow F B gV v2
  have hMw : HasO P w K mg base 1 "module_row" ["module", "state", "exports"] spMoRow := hasO_mk X G dMo (fun _ _ _ _ _ _ us hl => match us, hl with | [_, _, _], _ => rfl) fun f fd F => ok_morow F B
  have hCm : HasO P w K mg base 6 "check_mains" ["library", "mains"] (spChkM CL) := hasO_mk X G dCm (fun _ _ _ _ _ _ us hl => match us, hl with | [_, _], _ => rfl) fun f fd F => ok_chkM F B TL gN (hName.up (by decide)) hChk (hMo.up (by decide))
  have hPr : MkPr P w K mg base 1 C := by
    obtain ⟨f, od, an, sl, oc, kV, dc, pm, cd, ct, a, i, l, c, kp, t⟩ := mPI
    have F := fun_mk (st := sPInit) l c kp
    exact ⟨⟨f, _, ⟨mR0, a, i, pR⟩, ok_prinit F T, F.binds (fun _ _ _ _ _ _ us hl => match us, hl with | [_, _], _ => rfl)⟩⟩
  have e9 : 6 + 1 + 3 * d + 2 = 9 + 3 * d := by omega
  rw [e9] at hEx
  have e10 : 10 + 3 * d = (9 + 3 * d) + 1 := by omega
  have hRun : HasO P w K mg base (10 + 3 * d) "run_mains" ["library", "mains"] (spRunMs C CL d) := by
    rw [e10]
    refine hasO_mk X G dRm (fun _ _ _ _ _ _ us hl => match us, hl with | [_, _], _ => rfl) fun f fd F => ok_runMs F B T TF (by omega) (hCm.up (by omega)) ?_ (hMk.up (by omega)) hEx (hMr.up (by omega)) (hBW.up (by omega)) (hV.up (by omega))
    obtain ⟨f, fd, M, G, b⟩ := hPr.ex
    exact ⟨⟨f, fd, M, fnUp G (by omega), b⟩⟩
  exact ⟨TL, hL, hRun, hMw, hName, hChk, hMo, T⟩
end Cr
/-! several clauses 'except X as n' -/
/-! a lambda handed to a def that tries it: wishes at the slots; heaps but their tables -/
namespace Cr
open PySem PySem.Spec PyProof.Rows L2 Evl
/-! ### heaps without their tables -/
def NoT (H : Hp) : Prop := ∀ a ps, H a ≠ some (.tbl ps)
theorem NoT.ex {H : Hp} (n : NoT H) {H1 H2 : Hp} (e : LamX.ExtN H1 H2) (h : Ex H H1) : Ex H H2 := fun a o z => e a o (h a o z) fun ps q => n a ps (by rw [← q]; exact z)
/-! ### the callee calls the lambda, what is raised wished for at its slots -/
end Cr
/-! the law's call where defs of the text make code objects, and nothing is shown around -/
/-! k55: what the top has left, gathered -/
namespace Cr
open PySem PySem.Spec PyProof.Rows L2 Evl
theorem all_mk {P : Program} {w : World} {K : PySem.W.Frag} {h : Heap} {mg : Str → Option Value} {fa : Addr} {aV aP dS CE CW CF CN CL C : Addr} {tL tS tM tN : Tok} {n : Nat} (X : K.In h) (G : h.Ns mainGlobals mg) (hfa : mg "law" = some (.ref fa)) (B : Blt mg)
    (v1 : PySem.W.nsIn K mainGlobals "VARIABLES" = some (some (.ref aV))) (v2 : KTup K aV (vars4.map V.str)) (v3 : PySem.W.nsIn K mainGlobals "LONGEST_NAME" = some (some (.int 8 tL))) (v4 : PySem.W.nsIn K mainGlobals "MOST_STEPS" = some (some (.int 30 tS))) (v8 : PySem.W.nsIn K mainGlobals "MOST_MODULES" = some (some (.int 40 tM))) (v9 : PySem.W.nsIn K mainGlobals "MOST_MAINS" = some (some (.int 8 tN)))
    (v5 : PySem.W.nsIn K mainGlobals "PLAIN_STEPS" = some (some (.ref aP))) (v7 : KTup K aP (plain3.map V.str)) (v6 : PySem.W.nsIn K mainGlobals "SHAPES" = some (some (.ref dS))) (S' : ∃ es, Shapes K w dS es n)
    (c0 : PySem.W.nsIn K mainGlobals "InvalidProgram" = some (some (.ref CE))) (e0 : ErrK P K CE xbV "InvalidProgram.__init__" "position" sInitP)
    (c1 : PySem.W.nsIn K mainGlobals "WrongStep" = some (some (.ref CW))) (e1 : ErrK P K CW xbR "WrongStep.__init__" "position" sInitW)
    (cN : PySem.W.nsIn K mainGlobals "InvalidNumber" = some (some (.ref CN))) (eN : PySem.W.excIn K CN [.type "ValueError", .type "Exception", .type "BaseException", .type "object"] "ValueError.__new__" = true) (eK : PySem.W.keepIn K (.ref CN) = true) (eB : PySem.W.subIn K (.ref CN) (.type "BaseException") = some true) (eT : PySem.W.typeIn K (.ref CN) = some (.type "type"))
    (cF : PySem.W.nsIn K mainGlobals "Frame" = some (some (.ref CF))) (kF : Cls K CF) (mF : PySem.W.makesIn K CF = true) (pF : PySem.W.keepIn K (.ref CF) = true) (nS : NoAttr K CF "steps") (nP : NoAttr K CF "position") (nM : NoAttr K CF "memory") (nV : NoAttr K CF "visited")
    (cL : PySem.W.nsIn K mainGlobals "Library" = some (some (.ref CL))) (kL : Cls K CL) (mL : PySem.W.makesIn K CL = true) (pL : PySem.W.keepIn K (.ref CL) = true) (nI : NoAttr K CL "initializers")
    (cR : PySem.W.nsIn K mainGlobals "PlainRun" = some (some (.ref C))) (kR : Cls K C) (mR0 : PySem.W.makesIn K C = true) (pR : PySem.W.keepIn K (.ref C) = true) (n1 : NoAttr K C "known_library") (n2 : NoAttr K C "started") (n3 : NoAttr K C "results") (n4 : NoAttr K C "exported")
    (dInt : DefAt K "is_integer" sIsInteger) (dName : DefAt K "is_name" sIsName) (dVar : DefAt K "is_variable" sIsVariable) (dBW : DefAt K "bare_word" sBareW) (dSM : DefAt K "step_modules" sSM) (dItem : DefAt K "is_item" sIsItem) (dBI : DefAt K "bare_item" sBareI) (dStep : DefAt K "is_step" sIsStep)
    (dBP : DefAt K "bare_program" sBareP) (dPlain : DefAt K "is_plain" sIsPlain) (dBef : DefAt K "is_step_before" sBefore) (dChk : DefAt K "check_steps" sSteps) (dC : DefKw K "check_program" sCheck) (dGv : DefAt K "given_variable" sGiven) (dCp : DefAt K "check_pair" sLPair) (dCps : DefAt K "check_pairs" sLPairs)
    (mI : MethAt K CF "__init__" "Frame.__init__" sFInit) (mN : MethAt K CF "next_step" "Frame.next_step" sFNext) (mV : MethAt K CF "variables" "Frame.variables" sFVars) (mO : MethAt K CF "is_over" "Frame.is_over" sFOver) (mMv : MethAt K CF "move" "Frame.move" sFMove) (mRp : MethAt K CF "run_plain" "Frame.run_plain" sFRun) (mP : MethKw K CF "pass_step" "Frame.pass_step" sFPass)
    (mLI : MethAt K CL "__init__" "Library.__init__" sLInit) (mMo : MethAt K CL "modules" "Library.modules" sLMods) (mHa : MethAt K CL "has_module" "Library.has_module" sLHas) (mIn : MethAt K CL "initializer" "Library.initializer" sLIni)
    (mPI : MethAt K C "__init__" "PlainRun.__init__" sPInit) (mPi : MethAt K C "initialize" "PlainRun.initialize" sPIni) (mPe : MethAt K C "execute" "PlainRun.execute" sPExec) (mPg : MethAt K C "get_past" "PlainRun.get_past" sPPast)
    (dMr : DefAt K "main_row" sMRow) (dMo : DefAt K "module_row" sMoRow) (dCm : DefAt K "check_mains" sChkM) (dRm : DefAt K "run_mains" sRunMs)
    (dPr : DefAt K "plain_run" sPRun) (mRe : MethAt K CL "__repr__" "Library.__repr__" sLRepr)
    (dPot : DefAt K "_law_pot" sPot) (dDraw : DefAt K "_law_draw" sDraw) (dPick : DefAt K "_law_choice" sChoice) (dWd : DefAt K "_law_word" sWord1) (dWs : DefAt K "_law_words" sWords1) (dMix : DefAt K "_law_mixed" sMixed) (dIg : DefAt K "_law_integer" sInt1) (dLo : DefAt K "_law_local_step" sLoc) (dRd : DefAt K "_law_read_step" sRead) (dGe : DefAt K "_law_program" sGen) (dLm : DefAt K "_law_modules" sLMo) (dDo : DefAt K "_law_done" sDone) (dSt : DefAt K "_law_started" sStarted) (dAd : DefAt K "_law_all_done" sAllD) (dAl : DefAt K "_law_alone_right" sAl) (dLaw : DefAt K "law" sLaw) :
    ∃ fd : FuncData, (∀ (s : Shared) (v : Value), BindsTo s fd ⟨[v], []⟩ [("_law_script", v)]) ∧ ∀ base : Heap, K.In base → base.Ns mainGlobals mg → FnG P w K mg base CX0 40 fa fd ["_law_script"] (spLaw K) := by
  obtain ⟨fL, od, an, sl, oc, kV, dc, pm, cd, ct, aL, lL, cL', kL'⟩ := dLaw
  have el := hfa.symm.trans (PySem.W.mg_of X G aL)
  cases el
  have FL := fun_mk (st := sLaw) lL cL' kL'
  refine ⟨PySem.W.fnOf "law" "law" (defArgs sLaw) (defBody sLaw) (defScope sLaw) .none kV dc pm an cd ct, fun s v => .of_eq rfl, fun base _ _ => ?_⟩
  have PL := plain_mk (P := P) (w := w) X G B v1 v2 v3 v4 v8 v9 v5 v7 v6 S' c0 e0 c1 e1 cN eN eK eB eT cF kF mF pF nS nP nM nV cL kL mL pL nI cR kR mR0 pR n1 n2 n3 n4 dInt dName dVar dBW dSM dItem dBI dStep dBP dPlain dBef dChk dC dGv dCp dCps mI mN mV mO mMv mRp mP mLI mMo mHa mIn mPI mPi mPe mPg dMr dMo dCm dRm base 9
  have hRun : HasO P w K mg base 38 "plain_run" ["library", "mains"] (spPRun CL 9) := hasO_mk X G dPr (fun _ _ _ _ _ _ us hl => match us, hl with | [_, _], _ => rfl) fun f fd F => ok_prun F B PL.R PL.run (PL.row.up (by decide))
  have lPot : Has P w K mg base 1 "_law_pot" ["_law_script", "_law_index"] (spPot K) := has_mk X G dPot (fun _ _ _ _ _ _ us hl => match us, hl with | [_, _], _ => rfl) fun f fd F => ok_pot F B
  have lDraw : Has P w K mg base 1 "_law_draw" ["_law_pot_here", "_law_bound"] spDraw := has_mk X G dDraw (fun _ _ _ _ _ _ us hl => match us, hl with | [_, _], _ => rfl) fun f fd F => ok_draw F B
  have lPick : Has P w K mg base 2 "_law_choice" ["_law_pot_here", "_law_options"] spChoice := has_mk X G dPick (fun _ _ _ _ _ _ us hl => match us, hl with | [_, _], _ => rfl) fun f fd F => ok_choice F B lDraw
  have lWd : Has P w K mg base 2 "_law_word" ["_law_pot_here", "_law_used"] spWord := has_mk X G dWd (fun _ _ _ _ _ _ us hl => match us, hl with | [_, _], _ => rfl) fun f fd F => ok_word1 F B lDraw
  have lWs : Has P w K mg base 3 "_law_words" ["_law_pot_here", "_law_number"] spWords := has_mk X G dWs (fun _ _ _ _ _ _ us hl => match us, hl with | [_, _], _ => rfl) fun f fd F => ok_words1 F B lWd
  have lMix : Has P w K mg base 2 "_law_mixed" ["_law_pot_here", "_law_options"] spMixed := has_mk X G dMix (fun _ _ _ _ _ _ us hl => match us, hl with | [_, _], _ => rfl) fun f fd F => ok_mixed F B lDraw
  have lIn : Has P w K mg base 2 "_law_integer" ["_law_pot_here"] spInteger := has_mk X G dIg (fun _ _ _ _ _ _ us hl => match us, hl with | [_], _ => rfl) fun f fd F => ok_int1 F B lDraw
  have lLo : Has P w K mg base 3 "_law_local_step" ["_law_pot_here", "_law_room", "_law_labels", "_law_is_main"] spLoc := has_mk X G dLo (fun _ _ _ _ _ _ us hl => match us, hl with | [_, _, _, _], _ => rfl) fun f fd F => ok_loc F B (lDraw.up (by decide)) lPick lIn
  have lRd : Has P w K mg base 3 "_law_read_step" ["_law_pot_here", "_law_targets", "_law_labels", "_law_earlier"] spRead := has_mk X G dRd (fun _ _ _ _ _ _ us hl => match us, hl with | [_, _, _, _], _ => rfl) fun f fd F => ok_read F B lPick
  have lGe : Has P w K mg base 4 "_law_program" pGen spGen := has_mk X G dGe (fun _ _ _ _ _ _ us hl => match us, hl with | [_, _, _, _, _], _ => rfl) fun f fd F => ok_gen F B (lDraw.up (by decide)) (lPick.up (by decide)) lRd lLo
  have lMo : Has P w K mg base 5 "_law_modules" pLMo spLMo := has_mk X G dLm (fun _ _ _ _ _ _ us hl => match us, hl with | [_, _, _, _], _ => rfl) fun f fd F => ok_lmo F B (lDraw.up (by decide)) (lWs.up (by decide)) (lMix.up (by decide)) lGe
  have lS0 : HasO P w K mg base 1 "_law_started" ["_law_scene", "_law_module"] (spStarted 0) := hasO_mk X G dSt (fun _ _ _ _ _ _ us hl => match us, hl with | [_, _], _ => rfl) fun f fd F => by
    refine F.ok (k := 0) scStarted (fun vs H Q E h => by obtain ⟨_, _, _, _, _, _, _, _, _, _, _, rfl, _⟩ := h; rfl) (fun cdv A outer s H vs Q E hr h => ?_)
    obtain ⟨_, _, _, _, _, _, _, _, _, _, _, _, _, _, _, h, _⟩ := h
    cases h
  have lDn : HasO P w K mg base 20 "_law_done" pDone (spDone 9) := dones_at (j := 1) (fun n k h => hasO_mk X G dSt (fun _ _ _ _ _ _ us hl => match us, hl with | [_, _], _ => rfl) fun f fd F => ok_started F B h) (fun n k h => hasO_mk X G dDo (fun _ _ _ _ _ _ us hl => match us, hl with | [_, _, _], _ => rfl) fun f fd F => ok_done F B h) lS0 9
  have lAd : HasO P w K mg base 21 "_law_all_done" ["_law_modules_here", "_law_mains"] (spAllD 9) := hasO_mk X G dAd (fun _ _ _ _ _ _ us hl => match us, hl with | [_, _], _ => rfl) fun f fd F => ok_alld F B lDn
  have lAl : HasO P w K mg base 39 "_law_alone_right" pAl (spAl CL 9) := hasO_mk X G dAl (fun _ _ _ _ _ _ us hl => match us, hl with | [_, _, _], _ => rfl) fun f fd F => ok_al F B hRun
  have hRe : HasReprQ P w K mg base 36 CL := by
    obtain ⟨f, od, an, sl, oc, kV, dc, pm, cd, ct, a, i, l, c, kp, t⟩ := mRe
    have F := fun_mk (st := sLRepr) l c kp
    exact ⟨⟨f, _, fun g a hg => ok_lreprQ (k := 35) hg F PL.T, F.binds (fun _ _ _ _ _ _ us hl => match us, hl with | [_], _ => rfl), a, i⟩⟩
  obtain ⟨fI, fdI, MkI, GI, bI⟩ := PL.lib
  exact ok_law (k := 39) (kl := 8) FL B PL.T (lPot.up (by decide)) (lDraw.up (by decide)) (lWs.up (by decide)) (lMo.up (by decide)) (lGe.up (by decide)) (lAd.up (by decide)) (lMix.up (by decide)) (hRun.up (by decide)) lAl hRe MkI GI bI (by decide) (by decide)
end Cr
open PySem PySem.W PyProof.Rows
set_option maxRecDepth 100000 in
set_option maxHeartbeats 0 in
theorem PySem.Challenge.cw_cycleready_k55_whole_order_of_main_progr_holds : PySem.Challenge.rw_cycleready_k55_whole_order_of_main_progr.Holds := by
  w_on; o_law; k_head; (case hw => w_witness2)
  k_fill
  refine Cr.walkG (l := PySem.Challenge.rw_cycleready_k55_whole_order_of_main_progr) (n := 63) (k := 40) (x := "_law_script") (sp := fun w => Cr.spLaw _) rfl (by decide) rfl ⟨rfl, by decide, by decide⟩ (fun w h Y => PySem.W.kIn_of Y) ?F (fun _ _ a ns hl _ hS => ⟨a, ns, rfl, hS, hl, fun _ => rfl⟩)
  case F =>
    intro w mg fa h KX G hmg
    have B : Cr.Blt mg := by
      constructor
      · exact PySem.W.mg_none_of KX G (by k_is)
      · exact PySem.W.mg_none_of KX G (by k_is)
      · exact PySem.W.mg_none_of KX G (by k_is)
      · exact PySem.W.mg_none_of KX G (by k_is)
      · exact PySem.W.mg_none_of KX G (by k_is)
      · exact PySem.W.mg_none_of KX G (by k_is)
      · exact PySem.W.mg_none_of KX G (by k_is)
      · exact PySem.W.mg_none_of KX G (by k_is)
      · exact PySem.W.mg_none_of KX G (by k_is)
      · exact PySem.W.mg_none_of KX G (by k_is)
      · exact PySem.W.mg_none_of KX G (by k_is)
      · exact PySem.W.mg_none_of KX G (by k_is)
      · exact PySem.W.mg_none_of KX G (by k_is)
      · exact PySem.W.mg_none_of KX G (by k_is)
      · exact PySem.W.mg_none_of KX G (by k_is)
      · exact PySem.W.mg_none_of KX G (by k_is)
      · exact PySem.W.mg_none_of KX G (by k_is)
      · exact PySem.W.mg_none_of KX G (by k_is)
      · exact PySem.W.mg_none_of KX G (by k_is)
      · exact PySem.W.mg_none_of KX G (by k_is)
      · exact PySem.W.mg_none_of KX G (by k_is)
      · exact PySem.W.mg_none_of KX G (by k_is)
      · exact PySem.W.mg_none_of KX G (by k_is)
      · exact PySem.W.mg_none_of KX G (by k_is)
      · exact PySem.W.mg_none_of KX G (by k_is)
      · exact PySem.W.mg_none_of KX G (by k_is)
    refine' Cr.all_mk (P := PySem.Challenge.pw_cycleready_k55_whole_order_of_main_progr) KX G hmg B ?p_v1 ?p_v2 ?p_v3 ?p_v4 ?p_v8 ?p_v9 ?p_v5 ?p_v7 ?p_v6 ?p_S' ?p_c0 ?p_e0 ?p_c1 ?p_e1 ?p_cN ?p_eN ?p_eK ?p_eB ?p_eT ?p_cF ?p_kF ?p_mF ?p_pF ?p_nS ?p_nP ?p_nM ?p_nV ?p_cL ?p_kL ?p_mL ?p_pL ?p_nI ?p_cR ?p_kR ?p_mR0 ?p_pR ?p_n1 ?p_n2 ?p_n3 ?p_n4 ?p_dInt ?p_dName ?p_dVar ?p_dBW ?p_dSM ?p_dItem ?p_dBI ?p_dStep ?p_dBP ?p_dPlain ?p_dBef ?p_dChk ?p_dC ?p_dGv ?p_dCp ?p_dCps ?p_mI ?p_mN ?p_mV ?p_mO ?p_mMv ?p_mRp ?p_mP ?p_mLI ?p_mMo ?p_mHa ?p_mIn ?p_mPI ?p_mPi ?p_mPe ?p_mPg ?p_dMr ?p_dMo ?p_dCm ?p_dRm ?p_dPr ?p_mRe ?p_dPot ?p_dDraw ?p_dPick ?p_dWd ?p_dWs ?p_dMix ?p_dIg ?p_dLo ?p_dRd ?p_dGe ?p_dLm ?p_dDo ?p_dSt ?p_dAd ?p_dAl ?p_dLaw
    (case p_v1 => k_is)
    (case p_v2 => refine' Cr.ktup4 ?l; (case l => k_is))
    (case p_v3 => k_is)
    (case p_v4 => k_is)
    (case p_v8 => k_is)
    (case p_v9 => k_is)
    (case p_v5 => k_is)
    (case p_v7 => refine' Cr.ktup3 ?l; (case l => k_is))
    (case p_v6 => k_is)
    (case p_S' => refine' Cr.shapes_mk ?l ?e1 ?e2 ?e3 ?e4 ?e5 ?e6 ?e7 ?e8 ?low ?k1 ?k2 ?k3 ?k4 ?k5 ?k6 ?k7 ?k8; (case l => k_is); (case e1 => first | rfl | k_is); (case e2 => first | rfl | k_is); (case e3 => first | rfl | k_is); (case e4 => first | rfl | k_is); (case e5 => first | rfl | k_is); (case e6 => first | rfl | k_is); (case e7 => first | rfl | k_is); (case e8 => first | rfl | k_is); (case low => first | rfl | decide | k_is); (case k1 => refine' Cr.ktup2 ?l; (case l => k_is)); (case k2 => refine' Cr.ktup2 ?l; (case l => k_is)); (case k3 => refine' Cr.ktup2 ?l; (case l => k_is)); (case k4 => refine' Cr.ktup2 ?l; (case l => k_is)); (case k5 => refine' Cr.ktup3 ?l; (case l => k_is)); (case k6 => refine' Cr.ktup1 ?l; (case l => k_is)); (case k7 => refine' Cr.ktup2 ?l; (case l => k_is)); (case k8 => refine' Cr.ktup0 ?l; (case l => k_is)))
    (case p_c0 => k_is)
    (case p_e0 => refine' Cr.errK ?zi ?zl ?zc ?zs ?zt ?zp; (case zi => k_is); (case zl => k_is); (case zc => k_is); (case zs => refine' Cr.supG_mk ?xo ?xa ?xb ?xc ?xd ?xe ?xf ?xg ?xh ?xi; (case xo => refine' Cr.oexG_mk Cr.xbV_ok ?y1 ?y2 ?y3 ?y4 ?y5 ?y6; (case y1 => k_is); (case y2 => first | rfl | kernel_rfl | k_is); (case y3 => k_is); (case y4 => k_is); (case y5 => k_is); (case y6 => k_is)); (case xa => k_is); (case xb => first | rfl | k_is); (case xc => first | rfl | decide +kernel); (case xd => k_is); (case xe => k_is); (case xf => k_is); (case xg => first | ks_is | k_is); (case xh => k_is); (case xi => first | rfl | decide +kernel)); (case zt => k_is); (case zp => k_is))
    (case p_c1 => k_is)
    (case p_e1 => refine' Cr.errK ?zi ?zl ?zc ?zs ?zt ?zp; (case zi => k_is); (case zl => k_is); (case zc => k_is); (case zs => refine' Cr.supG_mk ?xo ?xa ?xb ?xc ?xd ?xe ?xf ?xg ?xh ?xi; (case xo => refine' Cr.oexG_mk Cr.xbR_ok ?y1 ?y2 ?y3 ?y4 ?y5 ?y6; (case y1 => k_is); (case y2 => first | rfl | kernel_rfl | k_is); (case y3 => k_is); (case y4 => k_is); (case y5 => k_is); (case y6 => k_is)); (case xa => k_is); (case xb => first | rfl | k_is); (case xc => first | rfl | decide +kernel); (case xd => k_is); (case xe => k_is); (case xf => k_is); (case xg => first | ks_is | k_is); (case xh => k_is); (case xi => first | rfl | decide +kernel)); (case zt => k_is); (case zp => k_is))
    (case p_cN => k_is)
    (case p_eN => k_exc)
    (case p_eK => k_is)
    (case p_eB => k_is)
    (case p_eT => k_is)
    (case p_cF => k_is)
    (case p_kF => refine' ⟨?h1, ?h2, ?h3, ?h4⟩; (case h1 => k_is); (case h2 => k_is); (case h3 => k_is); (case h4 => k_is))
    (case p_mF => k_is)
    (case p_pF => k_is)
    (case p_nS => show PySem.W.findIn _ _ _ = some none; k_is)
    (case p_nP => show PySem.W.findIn _ _ _ = some none; k_is)
    (case p_nM => show PySem.W.findIn _ _ _ = some none; k_is)
    (case p_nV => show PySem.W.findIn _ _ _ = some none; k_is)
    (case p_cL => k_is)
    (case p_kL => refine' ⟨?h1, ?h2, ?h3, ?h4⟩; (case h1 => k_is); (case h2 => k_is); (case h3 => k_is); (case h4 => k_is))
    (case p_mL => k_is)
    (case p_pL => k_is)
    (case p_nI => show PySem.W.findIn _ _ _ = some none; k_is)
    (case p_cR => k_is)
    (case p_kR => refine' ⟨?h1, ?h2, ?h3, ?h4⟩; (case h1 => k_is); (case h2 => k_is); (case h3 => k_is); (case h4 => k_is))
    (case p_mR0 => k_is)
    (case p_pR => k_is)
    (case p_n1 => show PySem.W.findIn _ _ _ = some none; k_is)
    (case p_n2 => show PySem.W.findIn _ _ _ = some none; k_is)
    (case p_n3 => show PySem.W.findIn _ _ _ = some none; k_is)
    (case p_n4 => show PySem.W.findIn _ _ _ = some none; k_is)
    (case p_dInt => refine' Cr.defAt ?a ?l ?c ?k; (case a => k_is); (case l => k_is); (case c => k_is); (case k => k_is))
    (case p_dName => refine' Cr.defAt ?a ?l ?c ?k; (case a => k_is); (case l => k_is); (case c => k_is); (case k => k_is))
    (case p_dVar => refine' Cr.defAt ?a ?l ?c ?k; (case a => k_is); (case l => k_is); (case c => k_is); (case k => k_is))
    (case p_dBW => refine' Cr.defAt ?a ?l ?c ?k; (case a => k_is); (case l => k_is); (case c => k_is); (case k => k_is))
    (case p_dSM => refine' Cr.defAt ?a ?l ?c ?k; (case a => k_is); (case l => k_is); (case c => k_is); (case k => k_is))
    (case p_dItem => refine' Cr.defAt ?a ?l ?c ?k; (case a => k_is); (case l => k_is); (case c => k_is); (case k => k_is))
    (case p_dBI => refine' Cr.defAt ?a ?l ?c ?k; (case a => k_is); (case l => k_is); (case c => k_is); (case k => k_is))
    (case p_dStep => refine' Cr.defAt ?a ?l ?c ?k; (case a => k_is); (case l => k_is); (case c => k_is); (case k => k_is))
    (case p_dBP => refine' Cr.defAt ?a ?l ?c ?k; (case a => k_is); (case l => k_is); (case c => k_is); (case k => k_is))
    (case p_dPlain => refine' Cr.defAt ?a ?l ?c ?k; (case a => k_is); (case l => k_is); (case c => k_is); (case k => k_is))
    (case p_dBef => refine' Cr.defAt ?a ?l ?c ?k; (case a => k_is); (case l => k_is); (case c => k_is); (case k => k_is))
    (case p_dChk => refine' Cr.defAt ?a ?l ?c ?k; (case a => k_is); (case l => k_is); (case c => k_is); (case k => k_is))
    (case p_dC => refine' Cr.defKw ?a ?l ?c ?k ?m; (case a => k_is); (case l => k_is); (case c => k_is); (case k => k_is); (case m => k_is))
    (case p_dGv => refine' Cr.defAt ?a ?l ?c ?k; (case a => k_is); (case l => k_is); (case c => k_is); (case k => k_is))
    (case p_dCp => refine' Cr.defAt ?a ?l ?c ?k; (case a => k_is); (case l => k_is); (case c => k_is); (case k => k_is))
    (case p_dCps => refine' Cr.defAt ?a ?l ?c ?k; (case a => k_is); (case l => k_is); (case c => k_is); (case k => k_is))
    (case p_mI => refine' Cr.methAt ?a ?i ?l ?c ?k ?t; (case a => k_is); (case i => k_is); (case l => k_is); (case c => k_is); (case k => k_is); (case t => k_is))
    (case p_mN => refine' Cr.methAt ?a ?i ?l ?c ?k ?t; (case a => k_is); (case i => k_is); (case l => k_is); (case c => k_is); (case k => k_is); (case t => k_is))
    (case p_mV => refine' Cr.methAt ?a ?i ?l ?c ?k ?t; (case a => k_is); (case i => k_is); (case l => k_is); (case c => k_is); (case k => k_is); (case t => k_is))
    (case p_mO => refine' Cr.methAt ?a ?i ?l ?c ?k ?t; (case a => k_is); (case i => k_is); (case l => k_is); (case c => k_is); (case k => k_is); (case t => k_is))
    (case p_mMv => refine' Cr.methAt ?a ?i ?l ?c ?k ?t; (case a => k_is); (case i => k_is); (case l => k_is); (case c => k_is); (case k => k_is); (case t => k_is))
    (case p_mRp => refine' Cr.methAt ?a ?i ?l ?c ?k ?t; (case a => k_is); (case i => k_is); (case l => k_is); (case c => k_is); (case k => k_is); (case t => k_is))
    (case p_mP => refine' Cr.methKw ?a ?i ?l ?c ?k ?n; (case a => k_is); (case i => k_is); (case l => k_is); (case c => k_is); (case k => k_is); (case n => k_is))
    (case p_mLI => refine' Cr.methAt ?a ?i ?l ?c ?k ?t; (case a => k_is); (case i => k_is); (case l => k_is); (case c => k_is); (case k => k_is); (case t => k_is))
    (case p_mMo => refine' Cr.methAt ?a ?i ?l ?c ?k ?t; (case a => k_is); (case i => k_is); (case l => k_is); (case c => k_is); (case k => k_is); (case t => k_is))
    (case p_mHa => refine' Cr.methAt ?a ?i ?l ?c ?k ?t; (case a => k_is); (case i => k_is); (case l => k_is); (case c => k_is); (case k => k_is); (case t => k_is))
    (case p_mIn => refine' Cr.methAt ?a ?i ?l ?c ?k ?t; (case a => k_is); (case i => k_is); (case l => k_is); (case c => k_is); (case k => k_is); (case t => k_is))
    (case p_mPI => refine' Cr.methAt ?a ?i ?l ?c ?k ?t; (case a => k_is); (case i => k_is); (case l => k_is); (case c => k_is); (case k => k_is); (case t => k_is))
    (case p_mPi => refine' Cr.methAt ?a ?i ?l ?c ?k ?t; (case a => k_is); (case i => k_is); (case l => k_is); (case c => k_is); (case k => k_is); (case t => k_is))
    (case p_mPe => refine' Cr.methAt ?a ?i ?l ?c ?k ?t; (case a => k_is); (case i => k_is); (case l => k_is); (case c => k_is); (case k => k_is); (case t => k_is))
    (case p_mPg => refine' Cr.methAt ?a ?i ?l ?c ?k ?t; (case a => k_is); (case i => k_is); (case l => k_is); (case c => k_is); (case k => k_is); (case t => k_is))
    (case p_dMr => refine' Cr.defAt ?a ?l ?c ?k; (case a => k_is); (case l => k_is); (case c => k_is); (case k => k_is))
    (case p_dMo => refine' Cr.defAt ?a ?l ?c ?k; (case a => k_is); (case l => k_is); (case c => k_is); (case k => k_is))
    (case p_dCm => refine' Cr.defAt ?a ?l ?c ?k; (case a => k_is); (case l => k_is); (case c => k_is); (case k => k_is))
    (case p_dRm => refine' Cr.defAt ?a ?l ?c ?k; (case a => k_is); (case l => k_is); (case c => k_is); (case k => k_is))
    (case p_dPr => refine' Cr.defAt ?a ?l ?c ?k; (case a => k_is); (case l => k_is); (case c => k_is); (case k => k_is))
    (case p_mRe => refine' Cr.methAt ?a ?i ?l ?c ?k ?t; (case a => k_is); (case i => k_is); (case l => k_is); (case c => k_is); (case k => k_is); (case t => k_is))
    (case p_dPot => refine' Cr.defAt ?a ?l ?c ?k; (case a => k_is); (case l => k_is); (case c => k_is); (case k => k_is))
    (case p_dDraw => refine' Cr.defAt ?a ?l ?c ?k; (case a => k_is); (case l => k_is); (case c => k_is); (case k => k_is))
    (case p_dPick => refine' Cr.defAt ?a ?l ?c ?k; (case a => k_is); (case l => k_is); (case c => k_is); (case k => k_is))
    (case p_dWd => refine' Cr.defAt ?a ?l ?c ?k; (case a => k_is); (case l => k_is); (case c => k_is); (case k => k_is))
    (case p_dWs => refine' Cr.defAt ?a ?l ?c ?k; (case a => k_is); (case l => k_is); (case c => k_is); (case k => k_is))
    (case p_dMix => refine' Cr.defAt ?a ?l ?c ?k; (case a => k_is); (case l => k_is); (case c => k_is); (case k => k_is))
    (case p_dIg => refine' Cr.defAt ?a ?l ?c ?k; (case a => k_is); (case l => k_is); (case c => k_is); (case k => k_is))
    (case p_dLo => refine' Cr.defAt ?a ?l ?c ?k; (case a => k_is); (case l => k_is); (case c => k_is); (case k => k_is))
    (case p_dRd => refine' Cr.defAt ?a ?l ?c ?k; (case a => k_is); (case l => k_is); (case c => k_is); (case k => k_is))
    (case p_dGe => refine' Cr.defAt ?a ?l ?c ?k; (case a => k_is); (case l => k_is); (case c => k_is); (case k => k_is))
    (case p_dLm => refine' Cr.defAt ?a ?l ?c ?k; (case a => k_is); (case l => k_is); (case c => k_is); (case k => k_is))
    (case p_dDo => refine' Cr.defAt ?a ?l ?c ?k; (case a => k_is); (case l => k_is); (case c => k_is); (case k => k_is))
    (case p_dSt => refine' Cr.defAt ?a ?l ?c ?k; (case a => k_is); (case l => k_is); (case c => k_is); (case k => k_is))
    (case p_dAd => refine' Cr.defAt ?a ?l ?c ?k; (case a => k_is); (case l => k_is); (case c => k_is); (case k => k_is))
    (case p_dAl => refine' Cr.defAt ?a ?l ?c ?k; (case a => k_is); (case l => k_is); (case c => k_is); (case k => k_is))
    (case p_dLaw => refine' Cr.defAt ?a ?l ?c ?k; (case a => k_is); (case l => k_is); (case c => k_is); (case k => k_is))
