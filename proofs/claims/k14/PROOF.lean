import PyProof.Rows.All
import Wide.All
import OpenK.AllK
import Wide.FinOn
import PyProof.ReprRoads
import KE.GoesMore
import HandS.ForMost
import HandS.Evl
import HandS.IsInst
import HandS.Zip
import HandS.WideBits
import HandS.EndBits
import HandS.More
import HandS.Walk
import HandS.TupAny
import HandS.ExcInit
import HandS.ExcIs
import HandS.ExcField
import HandS.WordsExc
import KE.KExcSuper
import KE.KExcInit
import HandS.ExcOwn
import PyProof.ExcBaseAll.LookupError
import HandS.OwnEq
import HandS.NamedTupGet
import HandS.CallSlots
import HandS.Defaults
import HandS.MakeKwOnly
import HandS.FStr
import KE.KExcIs
import HandS.Style
import HandS.DictComp
import KE.SortData
import PyProof.Rows.StrMeet
import PyProof.Rows.SortWalk
import HandS.ListItems
import HandS.HotCalls
import KE.KEqDict
import PyProof.NeKinds
import PyProof.P3In
import HandS.Codes
import KE.IntTextLaws
import PyProof.StrLawsChain
import PyProof.Rows.ReprOcc
import HandS.Star
import HandS.TryOnly
import KE.KUnpackStar
import HandS.Dict
import HandS.Text
import HandS.StrMore
import PyProof.StrBlock2
import KE.KEqNest
import KE.KFmtOwn
import KE.KCallOwn
import PyProof.CallFns
import HandS.Small
import HandS.ExcInitHot
import HandS.SuiteRaise
import HandS.RaiseFrom
import HandS.Finally
import HandS.WordsDict
import HandS.ClsMeth
import KE.DataMinMax
import HandS.List
import KE.Datum
import HandS.Iter
import HandS.Lambda
import HandS.EndTab
import KE.KNestM
import PySem.Challenge.RW_cycleready_k14_libraries_told
set_option Elab.async false
set_option linter.all false
set_option maxRecDepth 100000
set_option maxHeartbeats 4000000
/-! Cr, part 1: promises of defs that hold where no repr is under way (so that repr may be asked inside of them). -/
namespace Cr
open PySem PySem.Spec PyProof.Rows L2 Evl
/-- nothing is being shown around -/
abbrev Quiet (A : Around) : Prop := A.guards = some []
/-- a def's promise, kept where it is quiet -/
structure FnG (P : Program) (w : World) (K : PySem.W.Frag) (mg : Str → Option Value) (base : Heap) (CX : CXT) (k : Nat) (f : Addr) (fd : FuncData) (ps : List Str) (sp : Sp) : Prop where
  sized : ∀ vs H Q E, sp vs H Q E → vs.length = ps.length
  goes : ∀ (A : Around) (outer : List Env) (s : Shared) (H : Hp) (args : Args) (us : List Value) (vs : List V) (Q : VK) (E : XK),
    Quiet A → Room k A → Env0 P w K mg base A outer s H → BindsTo s fd args (ps.zip us) → Vals vs us → sp vs H Q E →
    codeAny (model P w) A (.call (.ref f) args) (CR CX outer P w H s Q E) s
section
variable {P : Program} {w : World} {K : PySem.W.Frag} {mg : Str → Option Value} {base : Heap}
theorem FnG.up {CX : CXT} {j k : Nat} {f : Addr} {fd : FuncData} {ps : List Str} {sp : Sp}
    (F : FnG P w K mg base CX j f fd ps sp) (le : j ≤ k) : FnG P w K mg base CX k f fd ps sp :=
  ⟨F.sized, fun A outer s H args us vs Q E hq hr e hb r h => F.goes A outer s H args us vs Q E hq (hr.mono le) e hb r h⟩
/-- a def by its body, where it is quiet -/
theorem okG {x qual : Str} {st : Stmt} {f : Addr} {fd : FuncData} {N ps : List Str} {k : Nat} {sp : Sp}
    (F : Fun K x qual st f fd) (S : FnScope N ps (defScope st)) (len : ∀ vs H Q E, sp vs H Q E → vs.length = ps.length)
    (hbody : ∀ (cdv : Value) (A : Around) (outer : List Env) (s : Shared) (H : Hp) (vs : List V) (Q : VK) (E : XK),
      Quiet (A.deeper (envOfC qual (defScope st) s.heap.objs.size f cdv)) →
      Room k (A.deeper (envOfC qual (defScope st) s.heap.objs.size f cdv)) → sp vs H Q E →
      ∃ t, PSs (cxOf CX0 P w K mg base N qual (defScope st) f cdv A outer s H E).nox (defBody st) t ∧
        t { nx := fun _ H' => Q .non H', rt := Q } (start N vs) H) :
    FnG P w K mg base CX0 (k + 1) f fd ps sp := by
  obtain ⟨oc, od, kV, doc, pm, an, cdv, ct, osl, rfl, lk, hcd⟩ := F.ex
  refine ⟨len, fun A outer s H args us vs Q E hq hr e0 hb r hsp => ?_⟩
  have keepB : ∀ b o, base.get? b = some o → s.heap.get? b = some o := fun b o e => (e0.bs b o e).1
  have kinds : ((ps.zip us).all fun y => (defScope st).names.lookup y.1 == some .local || (defScope st).names.lookup y.1 == some .cell) = true := by
    refine List.all_eq_true.mpr fun y hy => ?_
    obtain ⟨n, v⟩ := y
    rcases S.par n (List.of_mem_zip hy).1 with z | z
    · simp [z]
    · simp [z]
  refine Att.call_fn (binds := ps.zip us) (e0.mod.kin.keeps keepB) (e0.mod.nolimit.keeps keepB) lk hcd hr.depth hb kinds (fun s1 IC => ?_) S.co S.gen S.kind
  obtain ⟨t, ht, hT⟩ := hbody cdv A outer s H vs Q E hq (hr.deeper _) hsp
  have I := inv_start (CX := CX0) (E := E) S hr.hd e0 (len _ _ _ _ hsp) r IC
  refine wpAny_mono (ht.nox.run [] s1 (start N vs) H _ I hT) (fun fl s2 h2 => ?_) fun e s2 h2 => h2
  match fl, h2 with
  | .ret u, ⟨v, σ2, H2, J, rv, q⟩ => exact ⟨v, H2, J.os, J.bare, J.base, J.hok, rv, q⟩
  | .next, ⟨σ2, H2, J, q⟩ => exact ⟨V.non, H2, J.os, J.bare, J.base, J.hok, rfl, q⟩
  | .brk, ⟨_, _, _, q⟩ => exact q.elim
  | .cont, ⟨_, _, _, q⟩ => exact q.elim
end
section
variable {X : Cx} {CX : CXT} {k : Nat} {f : Addr} {fd : FuncData} {ps : List Str} {sp : Sp} {dvs : List V} {ds : List Value} {E : XK}
/-- the callee, called where it is quiet -/
theorem runG {pins : List (Addr × Obj)} {σ : L2.St} {H : Hp} {s : Shared} {Q : VK} {us : List Value} {vs : List V}
    (F : FnG X.prog X.w X.K X.mg X.base CX k f fd ps sp) (hq : Quiet X.A) (hr : Room k X.A) (hb : Binds X.K fd ps ds) (hd : Vals dvs ds)
    (hx : Passes CX X E) (I : Inv X pins σ H s) (r : Vals vs us) (h : sp (vs ++ dvs) H Q E) :
    wpAny (model X.prog X.w) X.A (call (.ref f) us) (EP X pins σ Q) X.xe s := by
  have rr : Vals (vs ++ dvs) (us ++ ds) := Vals.append r hd
  have nn : (us ++ ds).length = ps.length := rr.length.symm.trans (F.sized _ _ _ _ h)
  have c := F.goes X.A X.stack s H ⟨us, []⟩ (us ++ ds) (vs ++ dvs) Q E hq hr (Inv.env0 I) (hb s us I.kIn nn) rr h
  refine wpAny_call (codeAny_mono c fun res s2 z => ?_)
  match res, z with
  | .error e, z => exact hx pins σ H s e s2 I z
  | .ok (.ret u), z => exact Inv.after I z
  | .ok .next, z => exact False.elim z
  | .ok .brk, z => exact False.elim z
  | .ok .cont, z => exact False.elim z
variable {x : Str} {p pos : Pos} {e : Expr} {es : List Expr} {t : TA}
theorem callG (F : FnG X.prog X.w X.K X.mg X.base CX k f fd ps sp) (hq : Quiet X.A) (hr : Room k X.A) (hg : Gl X x)
    (hm : X.mg x = some (.ref f)) (hk : PySem.W.keepIn X.K (.ref f) = true) (hb : Binds X.K fd ps ds) (hd : Vals dvs ds) (hx : Passes CX X E)
    (ha : PA X (e :: es) t) (hdb : (x == ("__debug__" : Str)) = false := by decide)
    (he : starEach (e :: es) X.env = (false, eval e X.env) :: starEach es X.env := by rfl)
    (hpl : (backTo pos (starEach es X.env)).any (·.1) = false := by rfl) :
    PE X (.Call (.Name x p) (e :: es) [] pos) (tCall sp dvs E t) := by
  constructor
  intro pins s σ H Q I h
  refine wpAny_Call_Name_kw (ld_glob I hg hm ?_ hdb)
  refine PySem.W.callWith_K (h₀ := X.base) I.ok.mod.kin hk ?_ he hpl
  refine thn (ha.run pos pins s σ H _ I h) ?_
  rintro us s1 ⟨vs, H1, I1, r, q⟩
  exact ⟨I1.kIn, runG F hq hr hb hd hx I1 r q⟩
end
/-! ### the law's own call -/
theorem law_callG {P : Program} {w : World} {K : PySem.W.Frag} {mg mb : Str → Option Value} {k : Nat} {fa a : Addr} {fd : FuncData} {x : Str} {sp : Sp} {s₁ : Shared} {vs : List Value} {ns : List Int}
    (KX : K.In s₁.heap) (hns : s₁.heap.Ns mainGlobals mg) (hb : s₁.heap.Ns builtinsNs mb) (hbb : ∀ x : Str, x ≠ "__name__" → mb x = bootBuiltins x)
    (hlim : s₁.heap.NoLimit) (hg : s₁.gens = #[]) (ha : s₁.heap.get? a = some { cls := .type "list", data := .seq vs.toArray })
    (hi : IntsAre vs ns) (hl : ns.length ≤ sizeLine) (hr : Room k callerA)
    (F : ∀ base : Heap, K.In base → base.Ns mainGlobals mg → FnG P w K mg base CX0 k fa fd [x] sp)
    (hbind : ∀ (s : Shared) (u : Value), BindsTo s fd ⟨[u], []⟩ [(x, u)])
    (hsp : ∀ H : Hp, SqL K H a (ns.map V.int) → sp [.ref a] H (fun v _ => v = .bl true) E0) :
    codeAny (model P w) callerA (.call (.ref fa) ⟨[.ref a], []⟩) (fun r s' => r = .ok (.ret (.bool true)) ∧ OldK s₁.heap s'.heap ∧ s'.os = s₁.os ∧ AllBare s'.gens) s₁ := by
  have rv := vals_ints hi
  have lenV := hi.length
  have core : ∀ H : Hp, (∀ b, H b = none ∨ (b = a ∧ H b = some (.frz { cls := .type "list", data := .seq vs.toArray } (.lst (ns.map V.int))) ∧ K.lookup a = none)) →
      SqL K H a (ns.map V.int) →
      codeAny (model P w) callerA (.call (.ref fa) ⟨[.ref a], []⟩) (fun r s' => r = .ok (.ret (.bool true)) ∧ OldK s₁.heap s'.heap ∧ s'.os = s₁.os ∧ AllBare s'.gens) s₁ := by
    intro H hO hS
    have hok : HOk P w H s₁.heap := fun b u z => by
      rcases hO b with q | ⟨rfl, q, _⟩
      · rw [q] at z; cases z
      · rw [q] at z; cases z
        exact ⟨ha, by rw [List.length_map]; exact hl, vs, _, rv, ha⟩
    have keepN : ∀ {b : Addr} {m : Str → Option Value}, s₁.heap.Ns b m → (hidT s₁.heap H).Ns b m := fun {b m} z => by
      obtain ⟨o, es, ep, e, d, r⟩ := z
      refine ⟨o, es, ep, hidT_get e ?_, d, r⟩
      rcases hO b with q | ⟨rfl, q, _⟩
      · exact q
      · rw [ha] at e
        cases e
        have d' : Data.seq vs.toArray _ = Data.dict es ep := d
        cases d'
    have keepK : K.In (hidT s₁.heap H) := fun b o e => by
      refine hidT_get (KX b o e) ?_
      rcases hO b with q | ⟨rfl, q, n⟩
      · exact q
      · rw [n] at e; cases e
    have hM : Mod K mg (hidT s₁.heap H) := by
      obtain ⟨mc, l1, l2⟩ := hlim
      exact ⟨keepK, keepN hns, ⟨mb, keepN hb, hbb⟩, ⟨mc, keepN l1, l2⟩⟩
    have e0 : Env0 P w K mg (hidT s₁.heap H) callerA [] s₁ H :=
      { frames := rfl, mod := hM, bs := fun b o e => of_hidT e, bsz := Nat.le_of_eq (hidT_size _ _), funs := trivial,
        frf := fun b z => absurd (show b ∈ ([] : List Addr) from z) List.not_mem_nil, hok := hok, bare := .of_eq hg }
    have go := (F _ keepK (keepN hns)).goes callerA [] s₁ H ⟨[.ref a], []⟩ [.ref a] [.ref a] _ _ rfl hr e0 (hbind s₁ (.ref a)) (.cons rfl .nil) (hsp H hS)
    refine codeAny_mono go fun res s2 z => ?_
    match res, z with
    | .error e, z => exact z.elim
    | .ok .next, z => exact False.elim z
    | .ok .brk, z => exact False.elim z
    | .ok .cont, z => exact False.elim z
    | .ok (.ret u), ⟨v, H2, os, bare, un, hok2, rel, q⟩ =>
      have qv : v = .bl true := q
      subst qv
      obtain rfl : u = Value.bool true := rel
      refine ⟨rfl, OldK.of_keep fun b o e => ?_, os, bare⟩
      rcases hO b with z | ⟨rfl, z, _⟩
      · exact un.keep b o e z (fun y => absurd (show b ∈ ([] : List Addr) from y) List.not_mem_nil) List.not_mem_nil
      · obtain ⟨g1, _⟩ := hok2 b _ (un.frzs b _ _ z)
        rw [ha] at e
        cases e
        exact g1
  cases hk : K.lookup a with
  | some o =>
    have e := KX a o hk
    rw [ha] at e
    cases e
    exact core (fun _ => none) (fun _ => .inl rfl) (.inr ⟨_, vs.toArray, _, hk, rfl, rfl, rfl, by rw [List.size_toArray, lenV]; exact hl, by simpa using rv⟩)
  | none =>
    refine core (fun b => if b = a then some (.frz { cls := .type "list", data := .seq vs.toArray } (.lst (ns.map V.int))) else none) (fun b => ?_) (.inl (.inr ⟨_, if_pos rfl⟩))
    by_cases hb : b = a
    · exact .inr ⟨hb, if_pos hb, hk⟩
    · exact .inl (if_neg hb)
/-- the end of a law row, the script's bits told -/
theorem walkG {l : PySem.W.OpenLaw} {n k : Nat} {q : Program} {loose : List Str} {XP : (Str → Option Value) → Heap → Prop} {YP : World → Heap → Prop} {d : DefRec} {K : Params → PySem.W.Frag} {sp : World → Sp} {x : Str}
    (hn : l.most = some n) (hn2 : n ≤ sizeLine) (hdf : d.params.defaults = []) (hr : Room k callerA)
    (hY : ∀ (w : World) (h : Heap), YP w h → (K w.params).In h)
    (F : ∀ (w : World) (mg : Str → Option Value) (fa : Addr) (h : Heap), (K w.params).In h → h.Ns mainGlobals mg → mg d.name = some (.ref fa) →
      ∃ fd : FuncData, (∀ (s : Shared) (u : Value), BindsTo s fd ⟨[u], []⟩ [(x, u)]) ∧
        ∀ base : Heap, (K w.params).In base → base.Ns mainGlobals mg → FnG l.prog w (K w.params) mg base CX0 k fa fd [x] (sp w))
    (hsp : ∀ (w : World) (H : Hp) (a : Addr) (ns : List Int), ns.length ≤ n → (∀ z ∈ ns, Builtin.Int.intBits z ≤ 1048576) →
      SqL (K w.params) H a (ns.map V.int) → sp w [.ref a] H (fun v _ => v = .bl true) E0) :
    PySem.W.WalkO q loose XP YP l.row.toRowW d [] (fun f vs => PySem.call f vs) := by
  refine Att.attach_callB hn hdf ?_
  intro w s₀ s₁ mg mb fa o pm cd doc a vs ns G Y ho hd hcd hmg hobj hints hlen hbits hgen
  obtain ⟨fd, hb, hF⟩ := F w mg fa _ (hY w _ Y) G.T.g hmg
  exact law_callG (hY w _ Y) G.T.g G.T.b G.T.builtins G.T.nolimit hgen hobj hints (Nat.le_trans hlen hn2) hr hF hb
    (fun H hS => hsp w H a ns hlen hbits hS)
end Cr
/-! Cr, part 2: data in the abstract heap, repr of it, isinstance of it. -/
namespace Cr
open PySem PySem.Spec PyProof.Rows L2 Evl
def kD : Key → PyData
  | .inl i => .int i
  | .inr x => .str x
mutual
/-- the value v is the data d, all of it tracked -/
inductive Dt (H : Hp) : V → PyData → Prop
  | non : Dt H .non .none
  | bl (b : Bool) : Dt H (.bl b) (.bool b)
  | int (i : Int) : Dt H (.int i) (.int i)
  | str (x : Str) : Dt H (.str x) (.str x)
  | lst {a : Addr} {xs : List V} {ds : List PyData} : H a = some (.lst xs) → DtAll H xs ds → Dt H (.ref a) (.list ds)
  | tup {a : Addr} {xs : List V} {ds : List PyData} : H a = some (.tup xs) → DtAll H xs ds → Dt H (.ref a) (.tuple ds)
  | dct {a : Addr} {kvs : List (Key × V)} {es : List (PyData × PyData)} : H a = some (.dK kvs) → DtKv H kvs es → Dt H (.ref a) (.dict es)
inductive DtAll (H : Hp) : List V → List PyData → Prop
  | nil : DtAll H [] []
  | cons {v : V} {vs : List V} {d : PyData} {ds : List PyData} : Dt H v d → DtAll H vs ds → DtAll H (v :: vs) (d :: ds)
inductive DtKv (H : Hp) : List (Key × V) → List (PyData × PyData) → Prop
  | nil : DtKv H [] []
  | cons {k : Key} {v : V} {kvs : List (Key × V)} {d : PyData} {es : List (PyData × PyData)} : Dt H v d → DtKv H kvs es → DtKv H ((k, v) :: kvs) ((kD k, d) :: es)
end
mutual
theorem Dt.ex {H H' : Hp} (e : Ex H H') : ∀ {v : V} {d : PyData}, Dt H v d → Dt H' v d
  | _, _, .non => .non
  | _, _, .bl b => .bl b
  | _, _, .int i => .int i
  | _, _, .str x => .str x
  | _, _, .lst h a => .lst (e _ _ h) (DtAll.ex e a)
  | _, _, .tup h a => .tup (e _ _ h) (DtAll.ex e a)
  | _, _, .dct h a => .dct (e _ _ h) (DtKv.ex e a)
theorem DtAll.ex {H H' : Hp} (e : Ex H H') : ∀ {vs : List V} {ds : List PyData}, DtAll H vs ds → DtAll H' vs ds
  | _, _, .nil => .nil
  | _, _, .cons h t => .cons (Dt.ex e h) (DtAll.ex e t)
theorem DtKv.ex {H H' : Hp} (e : Ex H H') : ∀ {kvs : List (Key × V)} {es : List (PyData × PyData)}, DtKv H kvs es → DtKv H' kvs es
  | _, _, .nil => .nil
  | _, _, .cons h t => .cons (Dt.ex e h) (DtKv.ex e t)
end
theorem DtAll.length {H : Hp} : ∀ {vs : List V} {ds : List PyData}, DtAll H vs ds → vs.length = ds.length
  | _, _, .nil => rfl
  | _, _, .cons _ t => by simp [DtAll.length t]
theorem DtKv.len {H : Hp} : ∀ {kvs : List (Key × V)} {ds : List (PyData × PyData)}, DtKv H kvs ds → kvs.length = ds.length
  | _, _, .nil => rfl
  | _, _, .cons _ t => by simp [DtKv.len t]
theorem DtAll.get {H : Hp} : ∀ {vs : List V} {ds : List PyData} {i : Nat} {v : V}, DtAll H vs ds → vs[i]? = some v → ∃ d, ds[i]? = some d ∧ Dt H v d
  | _, _, _, _, .nil, h => by simp at h
  | _, _, 0, _, .cons h _, e => by simp at e; subst e; exact ⟨_, rfl, h⟩
  | _, _, i + 1, _, .cons _ t, e => by
    obtain ⟨d, h1, h2⟩ := DtAll.get (i := i) t (by simpa using e)
    exact ⟨d, by simpa using h1, h2⟩
theorem DtAll.append {H : Hp} : ∀ {vs ws : List V} {ds es : List PyData}, DtAll H vs ds → DtAll H ws es → DtAll H (vs ++ ws) (ds ++ es)
  | _, _, _, _, .nil, s => s
  | _, _, _, _, .cons h t, s => .cons h (DtAll.append t s)
theorem DtAll.drop {H : Hp} : ∀ {vs : List V} {ds : List PyData} (n : Nat), DtAll H vs ds → DtAll H (vs.drop n) (ds.drop n)
  | _, _, 0, h => h
  | _, _, _ + 1, .nil => .nil
  | _, _, n + 1, .cons _ t => DtAll.drop n t
theorem DtAll.take {H : Hp} : ∀ {vs : List V} {ds : List PyData} (n : Nat), DtAll H vs ds → DtAll H (vs.take n) (ds.take n)
  | _, _, 0, _ => .nil
  | _, _, _ + 1, .nil => .nil
  | _, _, n + 1, .cons h t => .cons h (DtAll.take n t)
theorem DtAll.set {H : Hp} {v : V} {d : PyData} (hv : Dt H v d) : ∀ {vs : List V} {ds : List PyData} (n : Nat), DtAll H vs ds → DtAll H (vs.set n v) (ds.set n d)
  | _, _, _, .nil => .nil
  | _, _, 0, .cons _ t => .cons hv t
  | _, _, n + 1, .cons h t => .cons h (DtAll.set hv n t)
/-! ### the heap without one object -/
def wo (p : Addr) (H : Hp) : Hp := fun a => if a = p then none else H a
theorem wo_ne {p a : Addr} {H : Hp} (h : a ≠ p) : wo p H a = H a := if_neg h
theorem wo_same {p : Addr} {H : Hp} : wo p H p = none := if_pos rfl
theorem wo_some {p a : Addr} {H : Hp} {o : HO} (h : wo p H a = some o) : a ≠ p ∧ H a = some o := by
  by_cases e : a = p
  · subst e
    rw [wo_same] at h
    cases h
  · rw [wo_ne e] at h
    exact ⟨e, h⟩
theorem wo_ex (p : Addr) (H : Hp) : Ex (wo p H) H := fun a o h => (wo_some h).2
theorem Ex.wo {p : Addr} {H H' : Hp} (e : Ex H H') : Ex (Cr.wo p H) (Cr.wo p H') := fun a o h => by
  obtain ⟨n, h⟩ := wo_some h
  rw [wo_ne n]
  exact e a o h
theorem wo_upd {p : Addr} {H H' : Hp} {o : HO} (e : Ex (wo p H) (wo p H')) : Ex (wo p H) (wo p (upd H' p o)) := fun a u h => by
  have n := (wo_some h).1
  have q := e a u h
  rw [wo_ne n] at q
  rw [wo_ne n, upd_ne n]
  exact q
/-! ### the kind of data -/
def tyT : PyData → String
  | .none => "NoneType"
  | .bool _ => "bool"
  | .int _ => "int"
  | .str _ => "str"
  | .list _ => "list"
  | .tuple _ => "tuple"
  | .dict _ => "dict"
theorem Dt.ty {K : PySem.W.Frag} {H : Hp} {v : V} {d : PyData} (h : Dt H v d) : TyX K H v (.type (tyT d)) := by
  cases h with
  | non => exact .base .non
  | bl b => exact .base (.bl b)
  | int i => exact .base (.int i)
  | str x => exact .base (.str x)
  | lst h _ => exact .base (.lst h)
  | tup h _ => exact .base (.tup h)
  | dct h _ => exact .base (.dK h)
/-- isinstance(v, T), T one of the plain types -/
def isTs (T t : String) : Bool := t == T || (T == "int" && t == "bool")
def isT (T : String) (d : PyData) : Bool := isTs T (tyT d)
theorem kitS : ∀ t ∈ ["NoneType", "bool", "int", "str", "list", "tuple", "dict"], ∀ T ∈ ["int", "bool", "str", "list", "tuple", "dict"], kitB t T = some (isTs T t) := by decide +kernel
theorem tyT_mem (d : PyData) : tyT d ∈ ["NoneType", "bool", "int", "str", "list", "tuple", "dict"] := by
  cases d <;> simp [tyT]
theorem kit_isT {K : PySem.W.Frag} {T : String} (hT : T ∈ ["int", "bool", "str", "list", "tuple", "dict"]) (d : PyData) :
    PySem.W.kitOne K (.type (tyT d)) (.type T) = some (isT T d) := kit_ty (kitS _ (tyT_mem d) _ hT)
/-- isinstance on data -/
theorem rc_isi {K : PySem.W.Frag} {H : Hp} {v : V} {d : PyData} {T : String} (h : Dt H v d) (hT : T ∈ ["int", "bool", "str", "list", "tuple", "dict"]) :
    RC (rIsi K) [v, .ty T] H (.bl (isT T d)) := fun H1 e Q q =>
  ⟨v, .ty T, .type (tyT d), .type T, isT T d, rfl, .ty T, (Dt.ex e h).ty, kit_isT hT d, q H1 (Ex.refl H1)⟩
/-! ### repr -/
section
variable {X : Cx} {pins : List (Addr × Obj)} {σ : L2.St} {H : Hp} {s : Shared}
/-- what is shown of a value, at any heap that keeps this one -/
def Shown (P : Program) (w : World) (h : Heap) (v : Value) (d : PyData) : Prop :=
  (∃ as, Reads h v d as) ∧ (d.showable = true → d.shown.length ≤ sizeLine → ∃ bs, ReadAtMost h d.depth bs ∧ ReprK P w bs h d.depth v d.shown)
def ShownAll (P : Program) (w : World) (h : Heap) (vs : List Value) (ds : List PyData) : Prop :=
  (∃ as, ReadsAll h vs ds as) ∧ (PyData.showableAll ds = true → (∀ t ∈ PyData.shownAll ds, t.length ≤ sizeLine) →
    ∃ bs, ReadAtMost h (PyData.depthAll ds) bs ∧ ReprAllK P w bs h (PyData.depthAll ds) vs (PyData.shownAll ds))
theorem ShownAll.nil {P : Program} {w : World} {h : Heap} : ShownAll P w h [] [] :=
  ⟨⟨_, .nil⟩, fun _ _ => ⟨[], (fun _ z => nomatch z), by rw [PyData.shownAll]; exact .nil⟩⟩
theorem ShownAll.cons {P : Program} {w : World} {h : Heap} {v : Value} {vs : List Value} {d : PyData} {ds : List PyData} (a : Shown P w h v d) (b : ShownAll P w h vs ds) : ShownAll P w h (v :: vs) (d :: ds) := by
  obtain ⟨⟨as, ra⟩, sa⟩ := a
  obtain ⟨⟨bs, rb⟩, sb⟩ := b
  refine ⟨⟨_, .cons ra rb⟩, fun hs hz => ?_⟩
  rw [PyData.showableAll, Bool.and_eq_true] at hs
  rw [PyData.shownAll] at hz
  obtain ⟨b1, m1, k1⟩ := sa hs.1 (hz _ (List.mem_cons_self ..))
  obtain ⟨b2, m2, k2⟩ := sb hs.2 fun t ht => hz t (List.mem_cons_of_mem _ ht)
  refine ⟨b1 ++ b2, ?_, ?_⟩
  · rw [PyData.depthAll]
    exact (m1.mono (Nat.le_max_left _ _)).append (m2.mono (Nat.le_max_right _ _))
  · rw [PyData.depthAll, PyData.shownAll]
    exact .cons ((k1.more fun b hb => List.mem_append_left _ hb).level_le (Nat.le_max_left _ _)) (k2.more_le (fun b hb => List.mem_append_right _ hb) (Nat.le_max_right _ _))
theorem Shown.list {P : Program} {w : World} {h : Heap} {a : Addr} {o : Obj} {vs : List Value} {n : Nat} {ds : List PyData} (g : h.get? a = some o) (c : o.cls = .type "list") (e : o.data = .seq vs.toArray n) (S : ShownAll P w h vs ds) : Shown P w h (.ref a) (.list ds) := by
  obtain ⟨⟨as, ra⟩, sa⟩ := S
  have R : Reads h (.ref a) (.list ds) (a :: as) := .list g c e (by simpa using ra)
  refine ⟨⟨_, R⟩, fun hs hz => ?_⟩
  rw [PyData.showable] at hs
  rw [PyData.shown] at hz
  obtain ⟨bs, m, k⟩ := sa hs fun t ht => Nat.le_trans (listText_mem_le ht) hz
  have no : a ∉ bs := not_mem_of_deeper R (by rw [PyData.depth]; omega) m
  refine ⟨a :: bs, ReadAtMost.cons R (by rw [PyData.depth]; omega) m, ?_⟩
  rw [PyData.depth, PyData.shown]
  cases vs with
  | nil =>
    cases ra
    rw [PyData.shownAll, listText_nil]
    exact ReprK.listEmpty g c e
  | cons x l => exact ReprK.list g c e no (by simpa using k.length_eq) fun i y q => k.item i y (by simpa using q)
theorem Shown.tuple {P : Program} {w : World} {h : Heap} {a : Addr} {o : Obj} {vs : List Value} {n : Nat} {ds : List PyData} (g : h.get? a = some o) (c : o.cls = .type "tuple") (e : o.data = .seq vs.toArray n) (S : ShownAll P w h vs ds) : Shown P w h (.ref a) (.tuple ds) := by
  obtain ⟨⟨as, ra⟩, sa⟩ := S
  have R : Reads h (.ref a) (.tuple ds) as := .tuple g c e (by simpa using ra)
  refine ⟨⟨_, R⟩, fun hs hz => ?_⟩
  rw [PyData.showable] at hs
  rw [PyData.shown] at hz
  obtain ⟨bs, m, k⟩ := sa hs fun t ht => Nat.le_trans (tupleText_mem_le ht) hz
  refine ⟨a :: bs, ReadAtMost.cons R (by rw [PyData.depth]; omega) m, ?_⟩
  rw [PyData.depth, PyData.shown]
  exact ReprK.tuple g c e (not_mem_of_deeper R (by rw [PyData.depth]; omega) m) (by simpa using k)
theorem Shown.dict {P : Program} {w : World} {h : Heap} {a : Addr} {o : Obj} {es : Array DictEntry} {n : Nat} {kvs : List (PyData × PyData)} (g : h.get? a = some o) (c : o.cls = .type "dict") (e : o.data = .dict es n) (sys : (a == sysModules) = false)
    (S1 : ShownAll P w h (es.toList.map (·.key)) (kvs.map (·.1))) (S2 : ShownAll P w h (es.toList.map (·.val)) (kvs.map (·.2))) : Shown P w h (.ref a) (.dict kvs) := by
  obtain ⟨⟨as, ra⟩, sa⟩ := S1
  obtain ⟨⟨bs, rb⟩, sb⟩ := S2
  have R : Reads h (.ref a) (.dict kvs) (a :: as ++ bs) := .dict g c e ra rb
  refine ⟨⟨_, R⟩, fun hs hz => ?_⟩
  rw [PyData.showable] at hs
  rw [PyData.shown] at hz
  obtain ⟨h1, h2⟩ := PyData.showableKv_split kvs hs
  obtain ⟨b1, m1, k1⟩ := sa h1 fun t ht => let ⟨p, hp, hl⟩ := PyData.shownKv_key_le kvs t ht; Nat.le_trans hl (Nat.le_trans (dictText_mem_le hp) hz)
  obtain ⟨b2, m2, k2⟩ := sb h2 fun t ht => let ⟨p, hp, hl⟩ := PyData.shownKv_val_le kvs t ht; Nat.le_trans hl (Nat.le_trans (dictText_mem_le hp) hz)
  have m := (m1.mono (PyData.depthAll_keys_le kvs)).append (m2.mono (PyData.depthAll_vals_le kvs))
  refine ⟨a :: (b1 ++ b2), ReadAtMost.cons R (by rw [PyData.depth]; omega) m, ?_⟩
  rw [PyData.depth, PyData.shown, PyData.shownKv_eq]
  refine ReprK.dict g c e sys (not_mem_of_deeper R (by rw [PyData.depth]; omega) m) ?_
  exact ReprEntriesK.of_two es.toList _ _ (k1.more_le (fun b hb => List.mem_append_left _ hb) (PyData.depthAll_keys_le kvs)) (k2.more_le (fun b hb => List.mem_append_right _ hb) (PyData.depthAll_vals_le kvs))
theorem Shown.key {P : Program} {w : World} {h : Heap} {k : Key} {v : Value} (q : keyIs k v = true) : Shown P w h v (kD k) := by
  rcases keyIs_shape q with ⟨i, t, rfl, rfl⟩ | ⟨x, t, rfl, rfl⟩
  · refine ⟨⟨_, Reads.int i t⟩, fun hs _ => ⟨[], (fun _ z => nomatch z), ?_⟩⟩
    simp only [kD, PyData.shown]
    exact .of_is (ReprIs.int t (by simpa [kD, PyData.showable] using hs)) _ _ _
  · refine ⟨⟨_, Reads.str x t⟩, fun _ hz => ⟨[], (fun _ z => nomatch z), ?_⟩⟩
    simp only [kD, PyData.shown] at hz ⊢
    exact .of_is (ReprIs.str x t hz) _ _ _
/-- keys and values of a tracked dict -/
theorem shown_pairs {P : Program} {w : World} {h : Heap} : ∀ {kvs : List (Key × V)} {us : List (Key × Value)} {es : List DictEntry} {ds : List (PyData × PyData)},
    KV kvs us → PySem.Pairs (mixKind P w) es us → (∀ (i : Nat) (k : Key) (v : V) (u : Value), kvs[i]? = some (k, v) → RelV v u → ∃ d, ds[i]? = some (kD k, d) ∧ Shown P w h u d) → kvs.length = ds.length →
    ShownAll P w h (es.map (·.key)) (ds.map (·.1)) ∧ ShownAll P w h (es.map (·.val)) (ds.map (·.2))
  | [], _, _, ds, kv, ps, _, hl => by
    cases kv
    cases ps
    cases ds with
    | nil => exact ⟨.nil, .nil⟩
    | cons x r => simp at hl
  | (k, v) :: r, _, _, ds, kv, ps, hv, hl => by
    cases kv with
    | cons h1 h2 =>
      rename_i q us'
      obtain ⟨e1, rv⟩ := h1
      cases ps with
      | cons p1 p2 p3 =>
        obtain ⟨d, ed, sd⟩ := hv 0 k v q.2 rfl rv
        cases ds with
        | nil => simp at hl
        | cons x ds' =>
          simp at ed
          subst ed
          have ih := shown_pairs h2 p3 (ds := ds') (fun i k' v' u' e r' => by
            obtain ⟨d', g1, g2⟩ := hv (i + 1) k' v' u' (by simpa using e) r'
            exact ⟨d', by simpa using g1, g2⟩) (by simpa using hl)
          have e1' : k = q.1 := e1
          rw [List.map_cons, List.map_cons, List.map_cons, List.map_cons]
          refine ⟨.cons (Shown.key (k := k) ?_) ih.1, .cons ?_ ih.2⟩
          · rw [e1']
            exact p1
          · show Shown P w h _ d
            rw [p2]
            exact sd
mutual
theorem Dt.shown (I : Inv X pins σ H s) : ∀ {v : V} {d : PyData}, Dt H v d → ∀ {u : Value}, RelV v u → Shown X.prog X.w s.heap u d
  | _, _, .non, _, r => by
    cases r
    exact ⟨⟨_, Reads.none⟩, fun _ _ => ⟨[], (fun _ z => nomatch z), by rw [PyData.shown]; exact .of_is ReprIs.none _ _ _⟩⟩
  | _, _, .bl b, _, r => by
    cases r
    exact ⟨⟨_, Reads.bool b⟩, fun _ _ => ⟨[], (fun _ z => nomatch z), by rw [PyData.shown]; exact .of_is (ReprIs.bool b) _ _ _⟩⟩
  | _, _, .int i, _, r => Shown.key (k := .inl i) (by obtain ⟨t, rfl⟩ := r; exact keyIs_int i t)
  | _, _, .str x, _, r => Shown.key (k := .inr x) (by obtain ⟨t, rfl⟩ := r; exact keyIs_str x t)
  | _, _, .lst (a := a) (xs := xs) h t, _, r => by
    cases r
    obtain ⟨_, its, n, rv, g⟩ := (show ObjOk X.prog X.w H s.heap a (.lst xs) from I.hok a _ h)
    exact Shown.list g rfl rfl (DtAll.shown I t rv)
  | _, _, .tup (a := a) (xs := xs) h t, _, r => by
    cases r
    obtain ⟨_, its, rv, o, g, c, n, e⟩ := (show ObjOk X.prog X.w H s.heap a (.tup xs) from I.hok a _ h)
    exact Shown.tuple g c e (DtAll.shown I t rv)
  | _, _, .dct (a := a) (kvs := kvs) (es := ds) h t, _, r => by
    cases r
    obtain ⟨_, sys, us, kv, o, es, ep, g, ex, e, _, ps, _⟩ := (show ObjOk X.prog X.w H s.heap a (.dK kvs) from I.hok a _ h)
    obtain ⟨s1, s2⟩ := shown_pairs kv ps (fun i k v u q r => DtKv.shown I t i k v u q r) (DtKv.len t)
    exact Shown.dict g ex.1 e sys s1 s2
theorem DtAll.shown (I : Inv X pins σ H s) : ∀ {vs : List V} {ds : List PyData}, DtAll H vs ds → ∀ {us : List Value}, Vals vs us → ShownAll X.prog X.w s.heap us ds
  | _, _, .nil, _, r => by
    cases r
    exact .nil
  | _, _, .cons h t, _, r => by
    cases r with
    | cons r1 r2 => exact .cons (Dt.shown I h r1) (DtAll.shown I t r2)
theorem DtKv.shown (I : Inv X pins σ H s) : ∀ {kvs : List (Key × V)} {ds : List (PyData × PyData)}, DtKv H kvs ds → ∀ (i : Nat) (k : Key) (v : V) (u : Value), kvs[i]? = some (k, v) → RelV v u → ∃ d, ds[i]? = some (kD k, d) ∧ Shown X.prog X.w s.heap u d
  | _, _, .nil, _, _, _, _, q, _ => by simp at q
  | _, _, .cons h t, 0, k, v, u, q, r => by
    simp at q
    obtain ⟨rfl, rfl⟩ := q
    exact ⟨_, rfl, Dt.shown I h r⟩
  | _, _, .cons h t, i + 1, k, v, u, q, r => by
    obtain ⟨d, g1, g2⟩ := DtKv.shown I t i k v u (by simpa using q) r
    exact ⟨d, by simpa using g1, g2⟩
end
end
end Cr
/-! Cr, part 3: repr as a rule; zip of a text and a tuple. -/
namespace Cr
open PySem PySem.Spec PyProof.Rows L2 Evl
/-- data whose text is short enough -/
structure Fits (d : PyData) : Prop where
  show1 : d.showable = true
  deep : d.depth ≤ 50
  size : d.shown.length ≤ sizeLine
def rRepr : List V → Hp → VK → Prop := fun xs H Q => ∃ v d, xs = [v] ∧ Dt H v d ∧ Fits d ∧ Q (.str d.shown) H
theorem call_reprG {X : Cx} (hq : Quiet X.A) (hu : X.A.units + 64 < cLine) : CallR X (.builtin "repr") rRepr := by
  intro pins s σ H xs us Q I r h
  obtain ⟨v, d, rfl, hd, fit, q⟩ := h
  obtain ⟨u, rfl, ru⟩ := vals1 r
  have fin : ∀ (h' : Heap) (t tk : Nat), (∀ b o, s.heap.get? b = some o → h'.get? b = some o) → EP X pins σ Q (.str d.shown t) { s with heap := h', toks := tk } :=
    fun h' t tk hk => ⟨.str d.shown, H, I.kept hk, ⟨t, rfl⟩, q⟩
  have dp := fit.deep
  have sz := fit.size
  have sw := fit.show1
  cases hd with
  | non =>
    cases ru
    rw [PyData.shown] at q
    exact PySem.P.repr_of_none ⟨.str _, H, I.tok _, ⟨_, rfl⟩, q⟩
  | bl b =>
    cases ru
    rw [PyData.shown] at q
    exact PySem.P.repr_of_bool ⟨.str _, H, I.tok _, ⟨_, by cases b <;> rfl⟩, q⟩
  | int i =>
    obtain ⟨t, rfl⟩ := ru
    rw [PyData.shown] at q
    exact PySem.P.repr_of_int (by simpa [PyData.showable] using sw) ⟨.str _, H, I.tok _, ⟨_, rfl⟩, q⟩
  | str x =>
    obtain ⟨t, rfl⟩ := ru
    rw [PyData.shown] at q sz
    exact PySem.P.repr_of_str ⟨.str _, H, I.tok _, ⟨_, rfl⟩, q⟩ sz
  | @lst a xs ds h t =>
    cases ru
    obtain ⟨_, its, n, rv, g⟩ := (show ObjOk X.prog X.w H s.heap a (.lst xs) from I.hok a _ h)
    have S : ShownAll X.prog X.w s.heap its ds := DtAll.shown I t rv
    obtain ⟨⟨as, ra⟩, sa⟩ := S
    rw [PyData.showable] at sw
    rw [PyData.depth] at dp
    have R : Reads s.heap (.ref a) (.list ds) (a :: as) := .list g rfl rfl (by simpa using ra)
    rw [PyData.shown] at sz
    obtain ⟨bs, m, k⟩ := sa sw fun t ht => Nat.le_trans (listText_mem_le ht) sz
    have no : a ∉ bs := not_mem_of_deeper R (by rw [PyData.depth]; omega) m
    refine call_repr_slot (by omega) ⟨_, g, rfl⟩ F.slot_list_repr.toG ?_
    cases its with
    | nil =>
      cases ra
      refine call_list_repr_empty ⟨_, g, rfl⟩ g rfl ?_
      refine ⟨_, _, rfl, ?_⟩
      have e : (PyData.list []).shown = ("[]" : Str) := by rw [PyData.shown, PyData.shownAll, listText_nil]
      rw [e] at fin
      exact fin s.heap _ _ fun _ _ z => z
    | cons x l =>
      refine call_list_reprK (s := s) g rfl rfl no (by simpa using k.length_eq) (fun i y e => k.item i y (by simpa using e)) hq (fun b _ => Clear.nil b) (show X.A.units + 1 + (PyData.depthAll ds + 1) < cLine by omega) (fun _ _ z => z) (fun h' t tk hk => ?_) sz
      refine ⟨_, _, rfl, ?_⟩
      have z := fin h' t tk hk
      rw [PyData.shown] at z
      exact z
  | @tup a xs ds h t =>
    cases ru
    obtain ⟨_, its, rv, o, g, c, n, e⟩ := (show ObjOk X.prog X.w H s.heap a (.tup xs) from I.hok a _ h)
    have S : ShownAll X.prog X.w s.heap its ds := DtAll.shown I t rv
    obtain ⟨⟨as, ra⟩, sa⟩ := S
    rw [PyData.showable] at sw
    rw [PyData.depth] at dp
    have R : Reads s.heap (.ref a) (.tuple ds) as := .tuple g c e (by simpa using ra)
    rw [PyData.shown] at sz
    obtain ⟨bs, m, k⟩ := sa sw fun t ht => Nat.le_trans (tupleText_mem_le ht) sz
    have no : a ∉ bs := not_mem_of_deeper R (by rw [PyData.depth]; omega) m
    refine call_repr_slot (by omega) ⟨_, g, c⟩ F.slot_tuple_repr ?_
    refine call_tuple_reprK (s := s) g c e no (by simpa using k) hq (fun b _ => Clear.nil b) (show X.A.units + 1 + (PyData.depthAll ds + 1) < cLine by omega) (fun _ _ z => z) (fun h' t tk hk => ?_) sz
    refine ⟨_, _, rfl, ?_⟩
    have z := fin h' t tk hk
    rw [PyData.shown] at z
    exact z
  | @dct a kvs ds h t =>
    cases ru
    obtain ⟨_, sys, us, kv, o, es, ep, g, ex, e, _, ps, _⟩ := (show ObjOk X.prog X.w H s.heap a (.dK kvs) from I.hok a _ h)
    obtain ⟨s1, s2⟩ := shown_pairs kv ps (fun i k v u q r => DtKv.shown I t i k v u q r) (DtKv.len t)
    obtain ⟨⟨as, ra⟩, sa⟩ := s1
    obtain ⟨⟨bs, rb⟩, sb⟩ := s2
    rw [PyData.showable] at sw
    rw [PyData.depth] at dp
    have R : Reads s.heap (.ref a) (.dict ds) (a :: as ++ bs) := .dict g ex.1 e ra rb
    have sz2 := sz
    rw [PyData.shown] at sz
    obtain ⟨w1, w2⟩ := PyData.showableKv_split ds sw
    obtain ⟨b1, m1, k1⟩ := sa w1 fun t ht => let ⟨p, hp, hl⟩ := PyData.shownKv_key_le ds t ht; Nat.le_trans hl (Nat.le_trans (dictText_mem_le hp) sz)
    obtain ⟨b2, m2, k2⟩ := sb w2 fun t ht => let ⟨p, hp, hl⟩ := PyData.shownKv_val_le ds t ht; Nat.le_trans hl (Nat.le_trans (dictText_mem_le hp) sz)
    have m := (m1.mono (PyData.depthAll_keys_le ds)).append (m2.mono (PyData.depthAll_vals_le ds))
    refine call_repr_slot (by omega) ⟨_, g, ex.1⟩ F.slot_dict_repr ?_
    refine call_dict_reprK (s := s) g ex.1 e sys (not_mem_of_deeper R (by rw [PyData.depth]; omega) m) (ReprEntriesK.of_two es.toList _ _ (k1.more_le (fun b hb => List.mem_append_left _ hb) (PyData.depthAll_keys_le ds)) (k2.more_le (fun b hb => List.mem_append_right _ hb) (PyData.depthAll_vals_le ds)))
      hq (fun b _ => Clear.nil b) (show X.A.units + 1 + (PyData.depthKv ds + 1) < cLine by omega) (fun _ _ z => z) (fun h' t tk hk => ?_) (by rw [← PyData.shownKv_eq]; exact sz)
    refine ⟨_, _, rfl, ?_⟩
    have z := fin h' t tk hk
    rw [PyData.shown, PyData.shownKv_eq] at z
    exact z
theorem rc_repr {H : Hp} {v : V} {d : PyData} (h : Dt H v d) (f : Fits d) : RC rRepr [v] H (.str d.shown) := fun H1 e Q q =>
  ⟨v, d, rfl, Dt.ex e h, f, q H1 (Ex.refl H1)⟩
end Cr
/-! Cr, part 4: zip of a text and a tuple; comprehensions over any walk. -/
namespace Cr
open PySem PySem.Spec PyProof.Rows L2 Evl
theorem walk_zipT {K : PySem.W.Frag} {a b : Addr} {xs ys : List V} {n : Nat} (hn : n = min xs.length ys.length) :
    Walk (RZ.ItzT K a b) n (fun H => SqT K H a xs ∧ SqT K H b ys) (YPair (fun i => xs[i]?) fun i => ys[i]?) where
  goes := fun i H hi h => ⟨xs, ys, xs[i]'(by omega), ys[i]'(by omega), h.1, h.2, by simp [show i < xs.length by omega], by simp [show i < ys.length by omega]⟩
  stops := fun H h => ⟨xs, ys, h.1, h.2, by omega⟩
  yields := fun i H v H' hi h q => by
    obtain ⟨T, x, y, rfl, hT, rfl, hx, hy⟩ := q
    exact ⟨T, x, y, rfl, hT, rfl, hx xs h.1, hy ys h.2⟩
/-- a comprehension over any walk, which may be one of new things -/
theorem el_lcW {wi : TI} {g : TG} {tt : TT} {te : TE} {vs : List Nat} {σ : L2.St} {H : Hp} {n : Nat} {Y : Nat → Hp → V → Hp → Prop}
    (f : Nat → Bool) (v : Nat → V) (hn : n ≤ 40000)
    (hi : ∀ H1, Ex H H1 → ∀ R : It → Hp → Prop, (∀ H2 (J : It) (G : Hp → Prop), Walk J n G Y → (∀ H3 H4, Ex H3 H4 → G H3 → G H4) → Ex H1 H2 → G H2 → R J H2) → wi σ H1 R)
    (hs : ∀ i x H1 H2, Ex H H1 → i < n → Y i H1 x H2 → Ex H1 H2 ∧ ∃ σ2, wipe σ2 vs = wipe σ vs ∧ (∀ R : L2.St → Hp → Prop, R σ2 H2 → g x (wipe σ vs) H2 R) ∧ EvT tt σ2 H2 (f i) ∧ (f i = true → Ev te σ2 H2 (v i))) :
    EvL (tLc wi g tt te vs) σ H (given n f v) := by
  intro H0 e Q q
  refine hi H0 e _ fun H1 J G w hG e1 g1 D hD => ?_
  refine lc_it w (Cw H1 f v D) ⟨hD, Ex.new hD, upd_same⟩ (fun i H2 _ p => hG H1 H2 p.2.1 g1) (fun i x H2 H3 hlt p y => ?_) (fun H2 p => q D H2 (fresh_back e1 p.1) (e1.trans p.2.1) p.2.2)
  obtain ⟨p1, p2, p3⟩ := p
  obtain ⟨e2, σ2, hw, hgo, ht, he⟩ := hs i x H2 H3 ((e.trans e1).trans p2) hlt y
  refine hgo _ ⟨hw, ht H3 (Ex.refl H3) _ fun H4 e4 => ?_⟩
  cases hf : f i with
  | true =>
    rw [if_pos rfl]
    refine he hf H4 e4 _ fun H5 e5 => ⟨given i f v, e5 D _ (e4 D _ (e2 D _ p3)), sz_lt (by have := given_len i f v; omega), p1, Ex.mut (((p2.trans e2).trans e4).trans e5) p1, ?_⟩
    rw [given_yes hf]
    exact upd_same
  | false =>
    rw [if_neg Bool.false_ne_true]
    refine ⟨p1, (p2.trans e2).trans e4, ?_⟩
    rw [given_no hf]
    exact e4 D _ (e2 D _ p3)
end Cr
/-! Cr, part 5: small data, promises of one datum, evaluations that serve many defs. -/
namespace Cr
open PySem PySem.Spec PyProof.Rows L2 Evl
mutual
/-- texts and sequences of moderate size -/
def sm : PyData → Bool
  | .none | .bool _ | .int _ => true
  | .str x => decide (x.length ≤ 1000)
  | .list xs | .tuple xs => decide (xs.length ≤ 1000) && smAll xs
  | .dict _ => true
def smAll : List PyData → Bool
  | [] => true
  | x :: xs => sm x && smAll xs
end
theorem smAll_get : ∀ {ds : List PyData} {i : Nat} {d : PyData}, smAll ds = true → ds[i]? = some d → sm d = true
  | [], _, _, _, h => by simp at h
  | x :: xs, 0, d, h, e => by
    simp at e; subst e
    rw [smAll, Bool.and_eq_true] at h
    exact h.1
  | x :: xs, i + 1, d, h, e => by
    rw [smAll, Bool.and_eq_true] at h
    exact smAll_get h.2 (by simpa using e)
/-- a def that answers a datum with a bool -/
def spD (f : PyData → Bool) : Sp := fun vs H Q _ => ∃ v d, vs = [v] ∧ Dt H v d ∧ sm d = true ∧ ∀ H', Ex H H' → Q (.bl (f d)) H'
theorem spD_len {f : PyData → Bool} : ∀ vs H Q E, spD f vs H Q E → vs.length = 1 := fun vs H Q E h => by
  obtain ⟨v, d, rfl, _⟩ := h
  rfl
theorem spv_D {f : PyData → Bool} {H : Hp} {v : V} {d : PyData} (h : Dt H v d) (s : sm d = true) : SpV (spD f) [v] H (.bl (f d)) := fun H1 e Q q E =>
  ⟨v, d, rfl, Dt.ex e h, s, q⟩
section
variable {K : PySem.W.Frag} {σ : L2.St} {H : Hp} {ta tb tc te : TE} {x y z w v : V} {r r' : R2}
theorem ev_chain {k k' : Bool} (ha : Ev ta σ H x) (hb : Ev tb σ H y) (hr : RV r x y H (.bl k)) (hc : k = true → Ev tc σ H w) (hr' : k = true → RV r' y w H (.bl k')) : Ev (tChain r r' ta tb tc) σ H (.bl (k && k')) := fun H1 e Q q =>
  ha H1 e _ fun H2 e2 => hb H2 (e.trans e2) _ fun H3 e3 => hr H3 ((e.trans e2).trans e3) _ fun H4 e4 => ⟨k, rfl, by
    have e14 := (e2.trans e3).trans e4
    cases k with
    | true =>
      rw [if_pos rfl]
      exact hc rfl H4 (e.trans e14) _ fun H5 e5 => hr' rfl H5 ((e.trans e14).trans e5) Q fun H6 e6 => q H6 ((e14.trans e5).trans e6)
    | false =>
      rw [if_neg Bool.false_ne_true]
      exact q H4 e14⟩
theorem ev_all {bs : List Bool} (h : EvL te σ H (bs.map V.bl)) : Ev (tCB (rAll K) (tCons te tNil)) σ H (.bl (bs.all id)) := fun H1 e Q q =>
  h H1 e _ fun p H2 _ e2 hp => ⟨p, bs, rfl, sq_of hp, q H2 e2⟩
/-- len of a text, of a tracked tuple -/
theorem rc_lenS {s : Str} (h : s.length ≤ 1000) : RC (fun xs H Q => ∃ z, xs = [V.str z] ∧ z.length ≤ sizeLine ∧ Q (.int z.length) H) [.str s] H (.int (s.length : Int)) := fun H1 _ Q q =>
  ⟨s, rfl, sz_of (by omega), q H1 (Ex.refl H1)⟩
theorem rc_lenT {a : Addr} {xs : List V} (h : SqT K H a xs) : RC (fun vs H Q => ∃ p ys, vs = [V.ref p] ∧ (SqL K H p ys ∨ SqT K H p ys) ∧ Q (.int ys.length) H) [.ref a] H (.int (xs.length : Int)) := fun H1 e Q q =>
  ⟨a, xs, rfl, .inr (ex_t e h), q H1 (Ex.refl H1)⟩
theorem rc_lenL {a : Addr} {xs : List V} (h : SqL K H a xs) : RC (fun vs H Q => ∃ p ys, vs = [V.ref p] ∧ (SqL K H p ys ∨ SqT K H p ys) ∧ Q (.int ys.length) H) [.ref a] H (.int (xs.length : Int)) := fun H1 e Q q =>
  ⟨a, xs, rfl, .inl (ex_l e h), q H1 (Ex.refl H1)⟩
theorem cut_tail (v : V) (xs : List V) : cutV (v :: xs) (some 1) none = xs := by
  unfold cutV
  rw [show HT.sIx (v :: xs).length 0 (some 1) = min 1 (v :: xs).length from HT.sIx_nat _ 0 1, HT.sIx_none, show min 1 (v :: xs).length = 1 by rw [List.length_cons]; omega]
  show List.take ((v :: xs).length - 1) xs = xs
  rw [List.length_cons, Nat.add_sub_cancel]
  exact List.take_length
/-- t[1:] of a tuple that is not empty: a new tuple -/
theorem eu_tail {a : Addr} {v : V} {xs : List V} (h : Ev te σ H (.ref a)) (ht : SqT K H a (v :: xs)) : EvU (tSl (rSlT K) te (tPart (tC (.int 1))) tNoPart) σ H xs := fun H1 e Q q =>
  h H1 e _ fun H2 e2 => ⟨1, rfl, a, v :: xs, rfl, ex_t (e.trans e2) ht, by
    rw [show HT.sIx (v :: xs).length 0 (some 1) = min 1 (v :: xs).length from HT.sIx_nat _ 0 1]
    intro z
    have := z.1
    rw [List.length_cons] at this
    omega, fun p hp => by
    rw [cut_tail]
    exact q p _ (fresh_back e2 hp) (e2.trans (Ex.new hp)) upd_same⟩
end
/-! ### texts -/
def rLeS : R2 := fun x y H Q => ∃ i j, x = .str i ∧ y = .str j ∧ Q (.bl (!decide (j.cps.toList < i.cps.toList))) H
theorem op_leS {X : Cx} : OpR X (compareOp .LtE) rLeS := op_le_str
theorem rv_leS {i j : Str} {H : Hp} : RV rLeS (.str i) (.str j) H (.bl (!decide (j.cps.toList < i.cps.toList))) := fun H1 _ Q q => ⟨i, j, rfl, rfl, q H1 (Ex.refl H1)⟩
theorem one_lt (a b : Nat) : decide ([a] < [b]) = decide (a < b) := by
  by_cases h : a < b
  · rw [decide_eq_true h, decide_eq_true (List.cons_lt_cons_iff.mpr (.inl h))]
  · rw [decide_eq_false h, decide_eq_false]
    intro z
    rcases List.cons_lt_cons_iff.mp z with q | ⟨_, q⟩
    · exact h q
    · exact absurd q (by simp)
def isLow (c : Nat) : Bool := decide (97 ≤ c) && decide (c ≤ 122)
theorem given_all (n : Nat) (v : Nat → V) : given n (fun _ => true) v = (List.range n).map v := by
  unfold given
  rw [List.filter_eq_self.mpr (fun _ _ => rfl)]
theorem all_range {α : Type} (l : List α) (d : α) (p : α → Bool) : ((List.range l.length).map fun i => p (l.getD i d)).all id = l.all p := by
  rw [List.all_map]
  have e : ∀ n, n ≤ l.length → ((List.range n).all fun i => p (l.getD i d)) = (l.take n).all p := by
    intro n
    induction n with
    | zero => intro _; simp
    | succ n ih =>
      intro h
      rw [List.range_succ, List.all_append, ih (by omega), List.take_add_one, List.all_append]
      congr 1
      rw [List.getElem?_eq_getElem (by omega)]
      simp [List.getD, List.getElem?_eq_getElem (show n < l.length by omega)]
  have h := e l.length (Nat.le_refl _)
  rw [List.take_length] at h
  exact h
end Cr
/-! own errors whose making says super().__init__(..) first, over ValueError through classes between -/
namespace Cr
open PySem PySem.Spec PyProof.Rows L2
/-- the names of such a def -/
structure SupScope (N ps : List Str) (sc : Scope) : Prop where
  kind : sc.kind = .function
  co : sc.isCoroutine = false
  gen : sc.isGenerator = false
  nd : N.Nodup
  pre : N.take ps.length = ps
  par : ∀ x ∈ ps, sc.names.lookup x = some .local
  nocell : ∀ y ∈ sc.names, y.2 ≠ .cell
  free : ∀ y ∈ sc.names, y.2 = .free → y.1 = "__class__"
  cls : sc.names.lookup ("__class__" : Str) = some .free
  sup : sc.names.lookup ("super" : Str) = some .globalImplicit
/-- its body's context: no error leaves it -/
def cxSup (P : Program) (w : World) (K : PySem.W.Frag) (mg : Str → Option Value) (base : Heap) (N : List Str) (qual : Str) (scope : Scope) (f cda cc : Addr) (A : Around) (outer : List Env) (s : Shared) (H : Hp) : Cx where
  prog := P
  w := w
  K := K
  mg := mg
  base := base
  A := A.deeper (PySem.W.ksEnv qual scope s.heap.objs.size f (.ref cda) cc)
  N := N
  s_0 := s
  H_0 := H
  env := PySem.W.ksEnv qual scope s.heap.objs.size f (.ref cda) cc
  outer := outer
  stack := PySem.W.ksEnv qual scope s.heap.objs.size f (.ref cda) cc :: outer
  ex := []
  calm := true
  fn := fun _ => false
  pn := []
  xe := fun _ _ => False
theorem look_mem {α : Type} {x : Str} {v : α} : ∀ {l : List (Str × α)}, (l.map (·.1)).Nodup → (x, v) ∈ l → l.lookup x = some v
  | [], _, h => nomatch h
  | (y, u) :: l, nd, h => by
    rcases List.mem_cons.mp h with e | h2
    · cases e; simp [List.lookup]
    · have nd' := List.nodup_cons.mp nd
      have ne : (x == y) = false := by
        refine beq_eq_false_iff_ne.mpr fun z => nd'.1 ?_
        rw [← z]
        exact List.mem_map.mpr ⟨_, h2, rfl⟩
      simp only [List.lookup, ne]
      exact look_mem nd'.2 h2
theorem zip_rev {ps : List Str} {us : List Value} {i : Nat} {x : Str} {u : Value} (nd : ps.Nodup) (h1 : ps[i]? = some x) (h2 : us[i]? = some u) (hl : us.length = ps.length) : (ps.zip us).reverse.lookup x = some u := by
  refine look_mem ?_ ?_
  · rw [List.map_reverse]
    have e : (ps.zip us).map (·.1) = ps := List.map_fst_zip (by omega)
    rw [e]
    exact List.pairwise_reverse.mpr (List.Pairwise.imp (fun h => Ne.symm h) nd)
  · refine List.mem_reverse.mpr ?_
    refine List.mem_of_getElem? (i := i) ?_
    rw [List.getElem?_zip_eq_some]
    exact ⟨h1, h2⟩
section
variable {P : Program} {w : World} {K : PySem.W.Frag} {mg : Str → Option Value} {base : Heap}
theorem inv_sup {N ps : List Str} {qual : Str} {scope : Scope} {f cda cc : Addr} {cl : Value} {cld : Option Addr} {cv : Option Value} {csl : Array (Option Value)} {A : Around} {outer : List Env} {s : Shared} {h₁ : Heap} {tk : Nat} {H : Hp} {us : List Value} {vs : List V}
    (S : SupScope N ps scope) (hd : A.handled = none) (e0 : Env0 P w K mg base A outer s H) (hl : vs.length = ps.length) (r : Vals vs us) (hcell : K.lookup cc = some ⟨cl, cld, .cell cv, csl⟩)
    (hns : h₁.Ns s.heap.objs.size (fun x => (ps.zip us).reverse.lookup x)) (hk : ∀ b o, s.heap.get? b = some o → h₁.get? b = some o) :
    Inv (cxSup P w K mg base N qual scope f cda cc A outer s H) [] (L2.start N vs) H { s with heap := h₁, toks := tk } := by
  have hpl : ps.length ≤ N.length := by have := congrArg List.length S.pre; rw [List.length_take] at this; omega
  have noA : ∀ b : Addr, b ∉ (cxSup P w K mg base N qual scope f cda cc A outer s H).ex := fun b z => absurd (show b ∈ ([] : List Addr) from z) (by simp)
  have one : ∀ {y : Str} {c : Addr}, ([("__class__", cc)] : List (Str × Addr)).lookup y = some c → y = "__class__" ∧ c = cc := fun {y c} h => by
    by_cases z : y = "__class__"
    · subst z
      simp [List.lookup] at h
      exact ⟨rfl, h.symm⟩
    · have e : (y == ("__class__" : Str)) = false := beq_eq_false_iff_ne.mpr z
      simp [List.lookup, e] at h
  have hb := e0.mod.kin _ _ hcell
  have hc1 := e0.bs _ _ hb
  refine ⟨⟨e0.mod, S.kind, rfl, rfl, Nat.le_refl _, fun y z c h1 h2 => (one h1).1.trans (one h2).1.symm, fun y hy => ?_, fun y c z _ => absurd (show false = true from z) (by decide), fun _ => hd, Around.frames_deeper e0.frames, .inr ⟨rfl, rfl⟩, fun b z => absurd z (noA b), e0.bs, e0.bsz, fun b _ _ => noA b, fun b z => absurd z (noA b), e0.funs, e0.frf⟩,
    rfl, e0.bare, Un.kept hk, ⟨_, hns, fun i y v h1 h2 h3 => ?_⟩, fun y c h => ?_, e0.hok.fresh (Nat.le_refl _), fun y c h => ?_, fun p hp => absurd (show p ∈ ([] : List (Addr × Obj)) from hp) (by simp), e0.hok.kept hk, ?_⟩
  · have hy : scope.names.lookup y = some .cell ∨ scope.names.lookup y = some .free := hy
    rcases hy with hy | hy
    · exact absurd rfl (S.nocell _ (PySem.mem_of_lookup hy))
    · have e := S.free _ (PySem.mem_of_lookup hy) rfl
      have e : y = "__class__" := e
      subst e
      exact ⟨cc, by show ([(("__class__" : Str), cc)] : List (Str × Addr)).lookup ("__class__" : Str) = _; simp [List.lookup]⟩
  · have hi : i < vs.length := by
      unfold L2.start at h2
      by_cases hi : i < vs.length
      · exact hi
      · rw [List.getElem?_append_right (by simpa using hi)] at h2
        rw [List.getElem?_replicate] at h2
        split at h2 <;> cases h2
    have ha : vs[i]? = some v := by
      unfold L2.start at h2
      rw [List.getElem?_append_left (by simpa using hi), List.getElem?_map] at h2
      cases e : vs[i]? with
      | none => rw [e] at h2; cases h2
      | some a => rw [e] at h2; cases h2; rfl
    obtain ⟨u, hu, rv⟩ := r.get ha
    have hp : ps[i]? = some y := by
      rw [← S.pre, List.getElem?_take_of_lt (by omega)]; exact h1
    have ndP : ps.Nodup := by rw [← S.pre]; exact S.nd.sublist (List.take_sublist _ _)
    exact ⟨u, rv, .inl ⟨S.par y (List.mem_of_getElem? hp), zip_rev ndP hp hu (r.length.symm.trans hl)⟩⟩
  · obtain ⟨_, rfl⟩ := one h
    exact ⟨cv, _, hk _ _ hc1.1, rfl⟩
  · obtain ⟨_, rfl⟩ := one h
    exact hc1.2
  · unfold L2.start
    show _ = N.length
    rw [List.length_append, List.length_map, List.length_replicate]
    omega
end
end Cr
/-! own errors over a built-in error that has no __new__ of its own (KeyError: the one of LookupError) -/
namespace Cr
open PySem PySem.Sem
/-- what the tail of the chain must have -/
structure TailOk (B : String) (l : List Value) : Prop where
  has : l.contains (.type B) = true
  noA : l.contains (.type "AttributeError") = false
  noN : l.contains (.type "NameError") = false
section
variable {prog : Program} {w : World} {A : Around} {E : Value → Shared → Prop} {R : Result → Shared → Prop} {h : Heap} {g : Array GenState} {d : Drawn} {t : Nat} {os : OsState}
variable {nm q : Str} {C N : Addr} {bs bm tl : List Value} {hdct : Bool} {sn : List Str} {sub : List Value} {ab : Bool} {col : Option Bool} {dd : Option Addr} {k0 k1 k2 k3 k5 : Option Value} {B nw ini : String}
theorem TailOk.up {l : List Value} {c : Addr} {B : String} (T : TailOk B l) : TailOk B (.ref c :: l) :=
  ⟨by rw [List.contains_cons, T.has, Bool.or_true], by rw [List.contains_cons, T.noA]; rfl, by rw [List.contains_cons, T.noN]; rfl⟩
/-- the look ahead of __new__ -/
theorem chkNew (F : ExcBaseFacts B nw ini tl) (T : TailOk B (.ref C :: bm)) {M : Model} {us : List Value} {Q : Unit → Shared → Prop}
    (at_ : h.get? C = some (excClassObj nm q C N bs bm hdct sn sub ab col dd k0 k1 k2 k3 k5 nw)) (z : Q () ⟨h, g, d, t, os⟩) : wpAny M A (checkBuiltinCall nw ⟨.ref C :: us, []⟩) Q E ⟨h, g, d, t, os⟩ := by
  have e1 := T.has
  have e2 := F.noStar
  simp only [checkBuiltinCall, F.newKind, F.newSplit, F.newRow]
  repeat (first | refine wpAny_loadPart_at at_ ?_ | (refine wpAny_isSubtype_exc at_ ?_; rw [e1]) | refine wpAny_staticBase_exc at_ ?_ | refine wpAny_madeBy_exc at_ ?_ | simp only [bne_self_eq_false, Bool.false_eq_true, if_false] | wp_step)
  exact z
/-- __new__ itself -/
theorem runNew (F : ExcBaseFacts B nw ini tl) (T : TailOk B (.ref C :: bm)) {us : List Value} (at_ : h.get? C = some (excClassObj nm q C N bs bm hdct sn sub ab col dd k0 k1 k2 k3 k5 nw))
    (z : R (.ok (.ret (.ref (h.objs.size + 1)))) ⟨(h.push (PySem.W.kdv_tup us)).push (PySem.HandSPX.excO C h.objs.size), g, d, t, os⟩) (few : us.length ≤ sizeLine) :
    codeAny (model prog w) A (.builtin nw ⟨.ref C :: us, []⟩) R ⟨h, g, d, t, os⟩ := by
  have e0 := F.ends
  have e1 := T.has
  have e2 := T.noA
  have e3 := T.noN
  refine codeAny_builtinAt F.entry ?_
  unfold Builtin.«BaseException.__new__»
  refine wpAt_bind ?_
  show wpAt _ _ _ (stack >>= _) _ _ _
  refine wpAt_bind (wpAt_stack fun _ _ => wpAt_of_wpAny ?_)
  wp_walk
  refine wpAt_of_wpAny ?_
  rw [F.owner]
  repeat (first | with_reducible refine wpAny_madeHere_exc F.canon at_ ?_ | with_reducible refine wpAny_loadPart_at at_ ?_ | (with_reducible refine wpAny_isSubtype_exc at_ ?_; first | rw [e1] | rw [e2] | rw [e3]) | wp_step)
  show R _ _
  rw [Heap.size_push]
  exact z
/-- type.__call__: __new__, then the own __init__ -/
theorem typeCall2 (F : ExcBaseFacts B nw ini tl) (T : TailOk B (.ref C :: bm)) {us : List Value} {fI : Addr} {Q : Fin → Shared → Prop} (at_ : h.get? C = some (excClassObj nm q C N bs bm hdct sn sub ab col dd k0 k1 k2 k3 k5 nw))
    (hi : PySem.W.Looks (model prog w) h (typeLookup (.ref C) "__init__") (some (.ref fI))) (hb : ∀ self, PySem.W.Looks (model prog w) h (bindSpecial (.ref fI) self) (.ref fI, [self])) (few : us.length ≤ sizeLine)
    (z : codeAny (model prog w) A (.call (.ref fI) ⟨.ref (h.objs.size + 1) :: us, []⟩) (fun r s' => match r with | .ok (.ret v) => v = .none ∧ Q (.done (.ret (.ref (h.objs.size + 1)))) s' | .ok _ => False | .error e => E e s')
      ⟨(h.push (PySem.W.kdv_tup us)).push (PySem.HandSPX.excO C h.objs.size), g, d, t, os⟩) :
    wpAny (model prog w) A (Builtin.«type.__call__» ⟨.ref C :: us, []⟩) Q E ⟨h, g, d, t, os⟩ := by
  repeat (first | with_reducible refine wpAny_loadPart_at at_ ?_ | with_reducible refine wpAny_madeBy_exc at_ ?_ | wp_step)
  refine codeAny_call_builtin_code (Code.quiet_builtin _ F.quiet) (chkNew F T at_ (runNew F T at_ ?_ few))
  show wpAny _ _ _ _ _ _
  have kp : ∀ b o, h.get? b = some o → ((h.push (PySem.W.kdv_tup us)).push (PySem.HandSPX.excO C h.objs.size)).get? b = some o := fun b o e => Heap.get?_push_of_some _ (Heap.get?_push_of_some _ e)
  have at1 := kp _ _ at_
  have here : ((h.push (PySem.W.kdv_tup us)).push (PySem.HandSPX.excO C h.objs.size)).get? (h.objs.size + 1) = some (PySem.HandSPX.excO C h.objs.size) := by heap_get
  have own : (Value.ref C :: bm).contains (.ref C) = true := by simp
  have i1 := hi.keeps kp
  have b1 := (hb (.ref (h.objs.size + 1))).keeps kp
  unfold isInstance
  repeat (first | with_reducible refine wpAny_loadPart_at here ?_ | (with_reducible refine wpAny_isSubtype_exc at1 ?_; rw [own]) | wp_step)
  show wpAny _ _ (typeLookup (.ref C) _) _ _ _
  refine i1.at (wpAny_holding (wpAny_bind (b1.at ?_)))
  refine wpAny_bind (wpAny_call (codeAny_mono z fun r s' y => ?_))
  rcases r with e | (v | _ | _ | _) <;> first | exact y | exact y.elim | skip
  obtain ⟨rfl, y⟩ := y
  first
    | exact wpAny_pure (wpAny_pure y)
    | (wp_walk; exact y)
/-- the class is called -/
theorem call2 (F : ExcBaseFacts B nw ini tl) (T : TailOk B (.ref C :: bm)) {us : List Value} {fI : Addr} (at_ : h.get? C = some (excClassObj nm q C N bs bm hdct sn sub ab col dd k0 k1 k2 k3 k5 nw))
    (hi : PySem.W.Looks (model prog w) h (typeLookup (.ref C) "__init__") (some (.ref fI))) (hb : ∀ self, PySem.W.Looks (model prog w) h (bindSpecial (.ref fI) self) (.ref fI, [self])) (few : us.length ≤ sizeLine)
    (z : codeAny (model prog w) (A.under (.builtin "type.__call__" ⟨.ref C :: us, []⟩)) (.call (.ref fI) ⟨.ref (h.objs.size + 1) :: us, []⟩) (PySem.W.InitBack (h.objs.size + 1) R) ⟨(h.push (PySem.W.kdv_tup us)).push (PySem.HandSPX.excO C h.objs.size), g, d, t, os⟩) :
    codeAny (model prog w) A (.call (.ref C) ⟨us, []⟩) R ⟨h, g, d, t, os⟩ := by
  have f1 := tc_lookup
  have f2 := tc_bind (.ref C)
  have ty : (⟨h, g, d, t, os⟩ : Shared).TypeIs (.ref C) "type" := ⟨_, at_, rfl⟩
  refine codeAny_of_tree ?_
  show wpAny _ _ (callAny (.ref C) _) _ _ _
  repeat (any_goals (first | assumption | with_reducible refine wpAny_loadPart_at at_ ?_ | wp_step))
  refine ⟨rfl, ?_⟩
  refine codeAny_call_builtin_at (Code.quiet_builtin _ (by decide +kernel)) entry_typeCall (wpAny_check_type_call_sub at_ (typeCall2 F T at_ hi hb few ?_))
  refine codeAny_mono z fun r s' y => ?_
  rcases r with e | (v | _ | _ | _) <;> exact y
end
/-- what is asked of the __init__ of a built-in error -/
structure IniF (B ini : String) : Prop where
  plain : plainId ini = true
  entry : entryFor table ini = some Builtin.«BaseException.__init__»
  kind : builtinKind ini = some .slot
  row : Manifest.signature? ini = some ⟨.positional, "*", B, .self, [⟨"args", .varPos, false⟩]⟩
  star : (B != "*") = true
theorem iniOf {B nw ini : String} (F : ExcCallFacts B nw ini) : IniF B ini := ⟨F.init.plain, F.initEntry, F.initKind, F.initRow, F.noStar⟩
section
variable {M : Model} {A : Around} {E : Value → Shared → Prop} {h : Heap} {g : Array GenState} {d : Drawn} {t : Nat} {os : OsState}
/-- the look ahead of a bound __init__ -/
theorem chkIni {B ini nw : String} (F : IniF B ini) {nm q : Str} {C N e : Addr} {oe : Obj} {bs bm : List Value} {hdct : Bool} {sn : List Str} {sub : List Value} {ab : Bool} {col : Option Bool} {dd : Option Addr} {k0 k1 k2 k3 k5 : Option Value} {us : List Value} {Q : Unit → Shared → Prop}
    (at_ : h.get? C = some (excClassObj nm q C N bs bm hdct sn sub ab col dd k0 k1 k2 k3 k5 nw)) (he : h.get? e = some oe) (hcls : oe.cls = .ref C) (z : Q () ⟨h, g, d, t, os⟩) : wpAny M A (checkBoundCall ini ⟨.ref e :: us, []⟩) Q E ⟨h, g, d, t, os⟩ := by
  have st := F.star
  simp only [checkBoundCall, F.kind, F.row]
  repeat (first | (with_reducible refine wpAny_loadPart_at he ?_; rw [hcls]) | with_reducible refine wpAny_loadPart_at at_ ?_ | wp_step)
  refine wpAny_onRaise ?_
  rw [show ∀ (a b : String) (n : Nat), Bind.check ⟨.positional, "*", B, .self, [⟨"args", .varPos, false⟩]⟩ a b n (List.map (fun x => x.fst) ({ pos := Value.ref e :: us } : Args).kw) = pure () from fun a b n => check_star_args _ _ _ _ _ _]
  exact wpAny_pure z
end
end Cr
/-! own errors over any built-in error: fields stored, the making, super().__init__(..) -/
namespace Cr
open PySem PySem.Spec PyProof.Rows L2
open Builtin Builtin.ObjectAttr
/-- a built-in error: its name, its __new__ and __init__, its chain -/
structure XB where
  B : String
  nw : String
  ini : String
  tl : List Value
structure XB.Ok (b : XB) : Prop where
  made : ∃ Bn inN tlN, ExcBaseFacts Bn b.nw inN tlN ∧ TailOk Bn b.tl
  inif : IniF b.B b.ini
  sup : PySem.W.KxsFacts b.B b.ini
  free : ∀ self : Value, refuseLoop self "__setattr__" b.tl = pure ()
  obj : b.tl.contains (.type "object") = true
abbrev xbV : XB := ⟨"ValueError", "ValueError.__new__", "ValueError.__init__", [.type "ValueError", .type "Exception", .type "BaseException", .type "object"]⟩
abbrev xbL : XB := ⟨"LookupError", "LookupError.__new__", "LookupError.__init__", [.type "LookupError", .type "Exception", .type "BaseException", .type "object"]⟩
theorem ok_xb {b : XB} (F : ExcBaseFacts b.B b.nw b.ini b.tl) (s : PySem.W.KxsFacts b.B b.ini) (f : ∀ self : Value, refuseLoop self "__setattr__" b.tl = pure ()) (o : b.tl.contains (.type "object") = true) : b.Ok :=
  ⟨⟨_, _, _, F, F.hasB, F.noAttr, F.noName⟩, iniOf F.toExcCallFacts, s, f, o⟩
theorem xbV_ok : xbV.Ok := ok_xb F.excBase_ValueError PySem.W.kxs_ValueError F.store_ValueError.passes (by decide +kernel)
theorem xbL_ok : xbL.Ok := ok_xb F.excBase_LookupError PySem.W.kxs_LookupError F.store_LookupError.passes (by decide +kernel)
/-- own classes, then the chain -/
def downTo (tl : List Value) : List Value → Bool
  | .ref _ :: r => downTo tl r
  | l => l == tl
theorem down_or {tl l : List Value} (h : downTo tl l = true) : (∃ c r, l = .ref c :: r ∧ downTo tl r = true) ∨ l = tl := by
  unfold downTo at h
  split at h
  · exact .inl ⟨_, _, rfl, h⟩
  · exact .inr (beq_iff_eq.mp h)
theorem down_free {tl : List Value} (self : Value) (ht : refuseLoop self "__setattr__" tl = pure ()) : ∀ l : List Value, downTo tl l = true → refuseLoop self "__setattr__" l = pure ()
  | [], h => by
    rcases down_or h with ⟨_, _, z, _⟩ | rfl
    · cases z
    · exact ht
  | v :: r, h => by
    rcases down_or h with ⟨c, r', z, k⟩ | z
    · cases z
      rw [refuseLoop_ref]
      exact down_free self ht r k
    · rw [z]
      exact ht
theorem down_has {tl : List Value} (Y : String) : ∀ l : List Value, downTo tl l = true → l.contains (.type Y) = tl.contains (.type Y)
  | [], h => by
    rcases down_or h with ⟨_, _, z, _⟩ | rfl
    · cases z
    · rfl
  | v :: r, h => by
    rcases down_or h with ⟨c, r', z, k⟩ | z
    · cases z
      rw [List.contains_cons, down_has Y r k]
      rfl
    · rw [z]
theorem XB.Ok.tail {b : XB} (h : b.Ok) {C : Addr} {bm : List Value} (d : downTo b.tl bm = true) : ∃ Bn inN tlN, ExcBaseFacts Bn b.nw inN tlN ∧ TailOk Bn (.ref C :: bm) := by
  obtain ⟨Bn, inN, tlN, F, T⟩ := h.made
  refine ⟨Bn, inN, tlN, F, TailOk.up ⟨?_, ?_, ?_⟩⟩
  · rw [down_has _ _ d]; exact T.has
  · rw [down_has _ _ d]; exact T.noA
  · rw [down_has _ _ d]; exact T.noN
/-- what the written part says of an own error's class -/
structure OexG (K : PySem.W.Frag) (C : Addr) (b : XB) : Prop where
  ok : b.Ok
  cls : ∃ nm q N bs bm sn sub ab col dd k0 k1 k2 k3 k5, K.lookup C = some (excClassObj nm q C N bs bm true sn sub ab col dd k0 k1 k2 k3 k5 b.nw) ∧ downTo b.tl bm = true
  sa : PySem.W.findIn K (.ref C) "__setattr__" = some (some (.builtin "object.__setattr__"))
  exC : PySem.W.subIn K (.ref C) (.type "BaseException") = some true
  tyC : PySem.W.typeIn K (.ref C) = some (.type "type")
  kC : PySem.W.keepIn K (.ref C) = true
section
variable {prog : Program} {w : World} {A : Around} {R : Result → Shared → Prop} {hp : Heap} {g : Array GenState} {d : Drawn} {t : Nat} {os : OsState}
/-- the way of object.__setattr__ up to the own dict -/
theorem osaG {K : PySem.W.Frag} {name : Str} {tk : Tok} {v : Value} {x C : Addr} {ox : Obj} {od : Option Obj} {cd : ClassData} {b : XB} (hb : b.Ok) (X : K.In hp) (I : PySem.W.InstAt hp x ox C od) (hcd : PySem.W.clsIn K C = some cd) (hm : downTo b.tl cd.mro = true) (ha : PySem.W.findIn K (.ref C) name = some none)
    (go : ∀ Q : Fin → Shared → Prop, (∀ s', R (.ok (.ret .none)) s' → Q (.done (.ret .none)) s') → wpAny (model prog w) A.in1 (storeInOwnDict (.ref x) (.ref C) (.str name tk) name v false) Q (fun e s' => R (.error e) s') ⟨hp, g, d, t, os⟩) :
    codeAny (model prog w) A (.call (.builtin "object.__setattr__") ⟨[.ref x, .str name tk, v], []⟩) R ⟨hp, g, d, t, os⟩ := by
  have SF := F.store_object
  have has : cd.mro.contains (.type "object") = true := (down_has "object" _ hm).trans hb.obj
  have full : cd.mro.isEmpty = false := by
    cases e : cd.mro with
    | nil => rw [e] at has; exact absurd has (by decide)
    | cons _ _ => rfl
  have isO : PySem.W.Looks (model prog w) hp (isInstance (.ref x) (.type "object")) true := I.type.andThen (PySem.W.looks_mroIn X (by unfold PySem.W.mroIn; rw [hcd, Option.bind_some, if_neg (by rw [full]; decide), has]))
  refine codeAny_call_builtin SF.slot.plain SF.entry (@PySem.W.check_slot (model prog w) _ _ ⟨hp, g, d, t, os⟩ "object.__setattr__" "object" "__setattr__" (.ref x) [.str name tk, v] [] _ SF.kind SF.split isO (SF.args (.ref x) (.str name tk) v) ?_)
  have line : PySem.W.Looks (model prog w) hp (mroOf (.ref C)) cd.mro := (PySem.W.looks_clsIn X hcd).andThen .now
  have none_ : PySem.W.Looks (model prog w) hp (storeTaker? none) none := .now
  rw [PySem.W.osa_eq, refuse_eq]
  refine wpAny_bind (wpAny_bind (I.type.at (wpAny_bind (line.at ?_))))
  rw [down_free _ (hb.free _) _ hm]
  refine wpAny_pure (wpAny_bind (I.type.at (wpAny_bind ((PySem.W.looks_findIn X ha).at (wpAny_bind (none_.at ?_))))))
  exact go _ fun s' h => h
end
end Cr
namespace Cr
open PySem PySem.Spec PyProof.Rows L2
open Builtin Builtin.ObjectAttr
section
variable {prog : Program} {w : World} {A : Around} {R : Result → Shared → Prop} {hp : Heap} {g : Array GenState} {d : Drawn} {t : Nat} {os : OsState}
/-- the first field: the dict is made -/
theorem osaG_new {K : PySem.W.Frag} {name : Str} {tk : Tok} {v : Value} {x C : Addr} {fv : Array Value} {cd : ClassData} {b : XB} (hb : b.Ok) (X : K.In hp) (hx : hp.get? x = some { cls := .ref C, data := .fields fv }) (hcd : PySem.W.clsIn K C = some cd) (hm : downTo b.tl cd.mro = true) (hh : cd.hasDict = true)
    (ha : PySem.W.findIn K (.ref C) name = some none)
    (hq : ∀ h' tk' dx, (∀ c o, c ≠ x → hp.get? c = some o → h'.get? c = some o) → hp.objs.size ≤ dx → dx ≠ x → h'.get? x = some { cls := .ref C, dict := some dx, data := .fields fv } →
      h'.Ns1 dx (fun y => if y = name then some v else none) → R (.ok (.ret .none)) ⟨h', g, d, tk', os⟩) :
    codeAny (model prog w) A (.call (.builtin "object.__setattr__") ⟨[.ref x, .str name tk, v], []⟩) R ⟨hp, g, d, t, os⟩ := by
  refine osaG hb X (ox := { cls := .ref C, data := .fields fv }) (od := none) ⟨hx, rfl, rfl, trivial⟩ hcd hm ha fun Q hQ => ?_
  have far : x ≠ hp.objs.size := Nat.ne_of_lt (Heap.lt_size hx)
  have hc : PySem.W.Looks (model prog w) hp (classData C) cd := PySem.W.looks_clsIn X hcd
  obtain ⟨nm, bs, mro, ns, qn, hd, sn, sb, ab, col, dl⟩ := cd
  cases hh
  unfold storeInOwnDict ownDictForStores
  repeat (first | with_reducible refine PySem.HandSPX.store_in_new ?_ ?_ | with_reducible refine wpAny_loadPart_at hx ?_ | with_reducible refine hc.at ?_ | wp_step)
  · exact ⟨_, #[], _, (Heap.get?_update_ne _ _ _ _ far.symm).trans (Heap.get?_push_at rfl rfl), rfl, (fun e he => by simp at he), fun _ => rfl⟩
  · intro h' tk' hn hs
    refine hQ _ (hq h' tk' hp.objs.size (fun c o hc ho => ?_) (Nat.le_refl _) far.symm ?_ hn)
    · rw [hs.2 c (Nat.ne_of_lt (Heap.lt_size ho)), Heap.get?_update_ne _ _ _ _ hc]
      exact Heap.get?_push_of_some _ ho
    · rw [hs.2 x far]
      exact Heap.get?_update_self _ (Heap.get?_push_of_some _ hx) rfl
/-- a further field -/
theorem osaG_old {K : PySem.W.Frag} {name : Str} {tk : Tok} {v : Value} {x C dx : Addr} {fv : Array Value} {cd : ClassData} {m0 : Str → Option Value} {nl : List Str} {b : XB} (hb : b.Ok) (X : K.In hp) (hx : hp.get? x = some { cls := .ref C, dict := some dx, data := .fields fv }) (hns : hp.Ns1 dx m0) (hw : Within m0 nl) (hz : nl.length ≤ 1000)
    (hcd : PySem.W.clsIn K C = some cd) (hm : downTo b.tl cd.mro = true) (hh : cd.hasDict = true) (ha : PySem.W.findIn K (.ref C) name = some none)
    (hq : ∀ h' tk', (∀ c o, c ≠ dx → hp.get? c = some o → h'.get? c = some o) → h'.Ns1 dx (fun y => if y = name then some v else m0 y) → R (.ok (.ret .none)) ⟨h', g, d, tk', os⟩) :
    codeAny (model prog w) A (.call (.builtin "object.__setattr__") ⟨[.ref x, .str name tk, v], []⟩) R ⟨hp, g, d, t, os⟩ := by
  obtain ⟨oD, _, _, hoD, _, _⟩ := hns.count hw
  refine osaG hb X (ox := { cls := .ref C, dict := some dx, data := .fields fv }) (od := some oD) ⟨hx, rfl, rfl, hoD⟩ hcd hm ha fun Q hQ => ?_
  have hc : PySem.W.Looks (model prog w) hp (classData C) cd := PySem.W.looks_clsIn X hcd
  obtain ⟨nm, bs, mro, ns, qn, hd, sn, sb, ab, col, dl⟩ := cd
  cases hh
  unfold storeInOwnDict ownDictForStores
  repeat (first | with_reducible refine PySem.OEX.store_in_old hns hw hz ?_ | with_reducible refine wpAny_loadPart_at hx ?_ | with_reducible refine hc.at ?_ | wp_step)
  intro h' tk' hn hs
  exact hQ _ (hq h' tk' (fun c o hc ho => (hs.2 c hc).trans ho) hn)
end
section
variable {X : Cx} {pins : List (Addr × Obj)} {σ : L2.St} {H : Hp} {s : Shared} {a C dx : Addr} {b : XB} {f : Str} {y : V} {u : Value} {fs : List (Str × V)} {Q : Unit → Shared → Prop} {E : Value → Shared → Prop} {A : Around}
theorem ostG_new (T : OexG X.K C b) (I : Inv X pins σ H s) (e : H a = some (exo a C none)) (hno : PySem.W.findIn X.K (.ref C) f = some none) (ry : RelV y u)
    (h : ∀ dx s', H dx = none → dx ≠ a → Inv X pins σ (upd (upd H dx (exd dx [(f, y)])) a (exo a C (some dx))) s' → Q () s') : wpAny (model X.prog X.w) A (setAttr (.ref a) f u) Q E s := by
  obtain ⟨nm, q, N, bs, bm, sn, sub, ab, col, dd, k0, k1, k2, k3, k5, hC, hbm⟩ := T.cls
  have hcl : PySem.W.clsIn X.K C = some { name := nm, bases := bs, mro := .ref C :: bm, ns := N, qualname := q, hasDict := true, slotNames := sn, subclasses := sub, abstract := ab, collection := col, hasDel := false } := by unfold PySem.W.clsIn; rw [hC] <;> rfl
  obtain ⟨t1, ho⟩ := exo_at I.hok e
  obtain ⟨hp, g, d, t, os⟩ := s
  refine PySem.W.set_plain I.kIn (ox := { cls := .ref C, dict := none, data := .fields #[.ref t1, .none, .none, .none, .bool false, .none] }) (od := none) ⟨ho, rfl, rfl, trivial⟩ T.sa ?_
  refine osaG_new T.ok I.kIn ho hcl (show downTo b.tl (.ref C :: bm) = true from hbm) rfl hno (fun h' tk' dx k dn dne hx hn => ?_)
  have new : H dx = none := I.hok.fresh dn
  have old : ∀ {c : Addr} {o : Obj}, hp.get? c = some o → c ≠ dx := fun q => Nat.ne_of_lt (Nat.lt_of_lt_of_le (Heap.lt_size q) dn)
  have notA : ∀ {c : Addr}, H c = none → c ≠ a := fun n z => by rw [z, e] at n; cases n
  have atA : ∀ {c : Addr} {o : HO}, H c = some o → exo a C none ≠ o → upd (upd H dx (exd dx [(f, y)])) a (exo a C (some dx)) c = some o := fun q n => by
    rw [upd_ne (at_ne e q n), upd_ne (ne_of_none q new)]
    exact q
  have stays : Un X.fs [] H (upd (upd H dx (exd dx [(f, y)])) a (exo a C (some dx))) hp h' := {
    keep := fun c o q n _ _ => k c o (notA n) q
    slot := fun c o q n _ _ => ⟨o.slots, k c o (notA n) q⟩
    free := fun c o q n _ => by rw [upd_ne (notA n), upd_ne (old q)]; exact n
    there := fun c o q _ => by
      by_cases hc : c = a
      · subst hc
        exact ⟨_, hx⟩
      · exact ⟨o, k c o hc q⟩
    tups := fun c xs q => atA q exo_tup
    frzs := fun c o v q => atA q exo_frz
    tbls := fun c ps q => ⟨#[], by rw [atA q exo_tbl]; simp⟩ }
  refine h dx _ new dne (I.un (t' := tk') stays fun c o q => ?_)
  by_cases ca : c = a
  · subst ca
    rw [upd_same] at q
    cases q
    exact exo_ok hx
  rw [upd_ne ca] at q
  by_cases cd : c = dx
  · subst cd
    rw [upd_same] at q
    cases q
    exact exd_ok hn (relO_put (fs := []) ry fun _ => True.intro)
  rw [upd_ne cd] at q
  refine (I.hok c o q).stay (fun c' v hc z => k c' v ?_ z) (fun c' hc => atA hc exo_own) (fun c' xs hc => atA hc exo_tup)
  rcases hc with hc | hc
  · rw [hc]; exact ca
  · exact at_ne e hc exo_own
theorem ostG_old (T : OexG X.K C b) (I : Inv X pins σ H s) (e : H a = some (exo a C (some dx))) (ed : H dx = some (exd dx fs)) (hl : fs.length ≤ 900) (hno : PySem.W.findIn X.K (.ref C) f = some none) (ry : RelV y u)
    (h : ∀ s', Inv X pins σ (upd H dx (exd dx ((f, y) :: fs))) s' → Q () s') : wpAny (model X.prog X.w) A (setAttr (.ref a) f u) Q E s := by
  obtain ⟨nm, q, N, bs, bm, sn, sub, ab, col, dd, k0, k1, k2, k3, k5, hC, hbm⟩ := T.cls
  have hcl : PySem.W.clsIn X.K C = some { name := nm, bases := bs, mro := .ref C :: bm, ns := N, qualname := q, hasDict := true, slotNames := sn, subclasses := sub, abstract := ab, collection := col, hasDel := false } := by unfold PySem.W.clsIn; rw [hC] <;> rfl
  obtain ⟨t1, ho⟩ := exo_at I.hok e
  obtain ⟨mA, hns, rel⟩ := exd_at I.hok ed
  obtain ⟨hp, g, d, t, os⟩ := s
  obtain ⟨oD, _, _, hoD, _, _⟩ := hns.count (within_of rel)
  refine PySem.W.set_plain I.kIn (ox := { cls := .ref C, dict := some dx, data := .fields #[.ref t1, .none, .none, .none, .bool false, .none] }) (od := some oD) ⟨ho, rfl, rfl, hoD⟩ T.sa ?_
  refine osaG_old T.ok I.kIn ho hns (within_of rel) (by rw [List.length_map]; omega) hcl (show downTo b.tl (.ref C :: bm) = true from hbm) rfl hno (fun h' tk' k hn => h _ ?_)
  have there : ∃ o, h'.get? dx = some o := by
    obtain ⟨o, _, _, z, _⟩ := hn
    exact ⟨o, z⟩
  exact I.write (t' := tk') (x := dx) (e := dx) (o := exd dx ((f, y) :: fs)) (by rw [ed]; exact True.intro) (.inl rfl) k there (exd_ok hn (relO_put ry rel))
end
/-- self.f = e in an own error's __init__ -/
def tOstG (K : PySem.W.Frag) (f : Str) (to te : TE) : TS := fun D σ H => te σ H fun y H1 => to σ H1 fun x H2 => ∃ (a C : Addr) (b : XB), x = .ref a ∧ OexG K C b ∧ PySem.W.findIn K (.ref C) f = some none ∧
  ((H2 a = some (exo a C none) ∧ ∀ dx, H2 dx = none → dx ≠ a → D.nx σ (upd (upd H2 dx (exd dx [(f, y)])) a (exo a C (some dx)))) ∨
    ∃ (dx : Addr) (fs : List (Str × V)), H2 a = some (exo a C (some dx)) ∧ H2 dx = some (exd dx fs) ∧ fs.length ≤ 900 ∧ D.nx σ (upd H2 dx (exd dx ((f, y) :: fs))))
section
variable {X : Cx} {o e : Expr} {es : List Expr} {to te : TE} {ta : TA} {f : Str} {p p' pos : Pos}
theorem ps_ostG (ho : PE X o to) (he : PE X e te) (hs : swapsWith e (some (.Attribute o f p')) pos.line X.env = pure false := by rfl) : PS X (.Assign [.Attribute o f p'] e pos) (tOstG X.K f to te) := by
  constructor
  intro pins s σ H D I h
  refine plainObj_wpAny_Assign_Attribute (thn (he.run pins s σ H _ I h) ?_) hs
  rintro v s1 ⟨y, H1, I1, r1, q1⟩
  refine thn (ho.run pins s1 σ H1 _ I1 q1) ?_
  rintro u s2 ⟨x, H2, I2, r2, a, C, b, rfl, T, hno, q⟩
  obtain rfl : u = Value.ref a := r2
  rcases q with ⟨ea, q⟩ | ⟨dx, fs, ea, ed, hl, q⟩
  · exact ostG_new T I2 ea hno r1 fun dx s' n ne J => ⟨σ, _, J, q dx n ne⟩
  · exact ostG_old T I2 ea ed hl hno r1 fun s' J => ⟨σ, _, J, q⟩
/-- C(e, ..) by its own __init__, to be raised -/
theorem pmkG {CX : CXT} {x : Str} {C fI : Addr} {b : XB} {k : Nat} {fd : FuncData} {ps : List Str} {sp : Sp} {ds : List Value} {dvs : List V} (T : OexG X.K C b) (iC : PySem.W.findIn X.K (.ref C) "__init__" = some (some (.ref fI))) (tI : PySem.W.typeIn X.K (.ref fI) = some (.type "function"))
    (F1 : FnOk X.prog X.w X.K X.mg X.base CX k fI fd ps sp) (hr : Room (k + 1) X.A) (hb : Binds X.K fd ps ds) (hd : Vals dvs ds) (hx : Passes CX X (fun _ _ _ => False)) (hg : Gl X x) (hm : X.mg x = some (.ref C)) (ha : PA X (e :: es) ta)
    (hdb : (x == ("__debug__" : Str)) = false := by decide) (he : starEach (e :: es) X.env = (false, eval e X.env) :: starEach es X.env := by rfl) (hpl : (backTo pos (starEach es X.env)).any (·.1) = false := by rfl) :
    PMk X (.Call (.Name x p) (e :: es) [] pos) (tMkO C sp dvs ta) := by
  intro pins s σ H Q I h
  obtain ⟨nm, q, N, bs, bm, sn, sub, ab, col, dd, k0, k1, k2, k3, k5, hC, hbm⟩ := T.cls
  refine wpAny_Call_Name_kw (ld_glob I hg hm ?_ hdb)
  refine PySem.W.callWith_K (h₀ := X.base) I.ok.mod.kin T.kC (thn (ha.run pos pins s σ H _ I h) ?_) he hpl
  rintro us ⟨hp, g, dr, tk, os⟩ ⟨vs, H1, I1, r1, hz, q1⟩
  refine ⟨I1.kIn, ?_⟩
  show wpAny _ _ (call (.ref C) us) _ _ _
  have up : hp.objs.size ≤ hp.objs.size + 1 := Nat.le_succ _
  have go := q1 (hp.objs.size + 1) (I1.hok.fresh up)
  generalize eH : (hp.push (PySem.W.kdv_tup us)).push (PySem.HandSPX.excO C hp.objs.size) = hh
  have kk : ∀ c o, hp.get? c = some o → hh.get? c = some o := fun c o z => by rw [← eH]; exact Heap.get?_push_of_some _ (Heap.get?_push_of_some _ z)
  have here : hh.get? (hp.objs.size + 1) = some (PySem.HandSPX.excO C hp.objs.size) := by rw [← eH]; heap_get
  have I2 : Inv X pins σ (upd H1 (hp.objs.size + 1) (exo (hp.objs.size + 1) C none)) ⟨hh, g, dr, tk, os⟩ := I1.laid (t' := tk) kk up (exo_ok here)
  have rel : Vals (V.ref (hp.objs.size + 1) :: (vs ++ dvs)) (Value.ref (hp.objs.size + 1) :: (us ++ ds)) := .cons rfl (r1.append hd)
  have size : (Value.ref (hp.objs.size + 1) :: us ++ ds).length = ps.length := rel.length.symm.trans (F1.len _ _ _ _ go)
  have few : us.length ≤ sizeLine := by
    rw [← Paired.length r1, sizeLine_eq]
    omega
  obtain ⟨Bn, inN, tlN, FN, TN⟩ := T.ok.tail (C := C) hbm
  refine wpAny_call (call2 FN TN (I1.kIn _ _ hC) (PySem.W.looks_findIn I1.kIn iC) (fun self => PySem.W.bind_fn I1.kIn self tI) few ?_)
  rw [eH]
  refine codeAny_mono (F1.run _ X.stack _ _ ⟨Value.ref (hp.objs.size + 1) :: us, []⟩ (Value.ref (hp.objs.size + 1) :: (us ++ ds)) _ _ (fun _ _ _ => False) (hr.make C us []) (I2.env0.make C us []) (hb _ (Value.ref (hp.objs.size + 1) :: us) I2.kIn size) rel go) ?_
  intro r s' z
  match r, z with
  | .error er, z => exact hx pins σ _ _ er s' I2 z
  | .ok .next, z => exact False.elim z
  | .ok .brk, z => exact False.elim z
  | .ok .cont, z => exact False.elim z
  | .ok (.ret u), ⟨v, H2, os2, bare2, un2, hok2, rv, ev, d, fs, ea, ed, hd1, q2⟩ =>
    subst ev
    obtain ⟨h2, g2, d2, t2, os'⟩ := s'
    exact ⟨rv, mk_end (raises_own T.exC T.tyC) I1 up kk un2 hok2 os2 bare2 ea ed hd1 q2⟩
end
/-! ### super().__init__(..) first -/
structure SupG (P : Program) (K : PySem.W.Frag) (C cda cc : Addr) (b : XB) : Prop where
  oex : OexG K C b
  code : ∃ ccl cdd cvs ccs file tf, K.lookup cda = some ⟨ccl, cdd, .fields cvs, ccs⟩ ∧ cvs[2]? = some (.str file tf) ∧ ((P.main.file : Str) == file) = true
  cell : ∃ cl cld csl, K.lookup cc = some ⟨cl, cld, .cell (some (.ref C)), csl⟩
  self : PySem.W.mroIn K C (.ref C) = some true
  opq : PySem.W.nsIn K cStatics "thirdparty.any" = some none
  up : PySem.W.ks_superIn K C C "__init__" = some (some (.builtin b.ini))
  sub : PySem.W.subIn K (.ref C) (.type b.B) = some true
  top : (P.main.scope.names.lookup ("super" : Str)).isSome = false
section
variable {P : Program} {w : World} {K : PySem.W.Frag} {mg : Str → Option Value} {base : Heap}
/-- the bound __init__ of the base, called -/
theorem boundG {X : Cx} {pins : List (Addr × Obj)} {σ : L2.St} {H : Hp} {s : Shared} {a C u : Addr} {b : XB} {A : Around} {E : Value → Shared → Prop} {us : List Value} {Q : Value → Shared → Prop} (T : OexG X.K C b) (I : Inv X pins σ H s) (e : H a = some (exo a C none))
    (hu : s.heap.get? u = some (PySem.W.kxs_mw b.ini a)) (hl : us.length ≤ sizeLine) (h : ∀ s', Inv X pins σ H s' → Q .none s') : wpAny (model X.prog X.w) A (call (.ref u) us) Q E s := by
  obtain ⟨nm, q, N, bs, bm, sn, sub, ab, col, dd, k0, k1, k2, k3, k5, hC, hbm⟩ := T.cls
  obtain ⟨t1, ho⟩ := exo_at I.hok e
  have hC' := I.kIn _ _ hC
  obtain ⟨hp, g, d, t, os⟩ := s
  refine wpAny_call (codeAny_of_tree ?_)
  show wpAny _ A.in1 (callAny (.ref u) ⟨us, []⟩) _ _ _
  simp only [callAny]
  refine wpAny_bind (wpAny_load hu ?_)
  simp only [PySem.W.kxs_mw, show (Value.type "method-wrapper" == Value.type "method" || Value.type "method-wrapper" == Value.type "builtin_function_or_method" || Value.type "method-wrapper" == Value.type "method-wrapper") = true by decide, if_true]
  refine PySem.W.KFB.if_so (by decide) ?_
  refine wpAny_bind (chkIni T.ok.inif hC' ho rfl ?_)
  refine wpAny_bind (wpAny_pure (wpAny_pure ?_))
  refine ⟨plainId_quiet T.ok.inif.plain _, codeAny_builtin T.ok.inif.entry ?_⟩
  refine PySem.W.exc_init_tree (cls := .ref C) (t0 := t1) (dv := none) (c2 := .none) (c3 := .none) (b4 := .bool false) ho hl fun h' k hx _ => ?_
  have J := I.write (t' := t) (x := a) (e := a) (o := exo a C none) (by rw [e]; exact True.intro) (.inl rfl) k ⟨_, hx⟩ (exo_ok hx)
  have eu : upd H a (exo a C none) = H := by
    funext b
    by_cases hb : b = a
    · rw [hb, upd_same, e]
    · rw [upd_ne hb]
  rw [eu] at J
  exact h _ J
/-- THE RULE: def __init__(self, ..): super().__init__(e, ..); rest -/
theorem okSupG {name qual : Str} {params : Arguments} {scope : Scope} {dV kV doc pm ct oc : Value} {an od : Option Addr} {osl : Array (Option Value)} {f C cda cc : Addr} {b : XB} {N ps : List Str} {k : Nat} {sp : Sp}
    {p0 p1 p2 p3 p4 : Pos} {e : Expr} {es : List Expr} {rest : List Stmt} {ar : Arg}
    (lk : K.lookup f = some ⟨oc, od, .func (PySem.W.ksFn name qual params (.Expr (.Call (.Attribute (.Call (.Name "super" p0) [] [] p1) "__init__" p2) (e :: es) [] p3) p4 :: rest) scope dV kV doc pm an (.ref cda) ct cc), osl⟩)
    (hcd : PySem.W.codeIn K (.ref cda) qual = true) (S : SupScope N ps scope) (T : SupG P K C cda cc b) (hsup : mg "super" = none)
    (hp0 : (params.posonlyargs ++ params.args).head? = some ar) (hself : N[0]? = some ar.arg) (hps : ar.arg ∈ ps)
    (len : ∀ vs H Q E, sp vs H Q E → vs.length = ps.length)
    (hbody : ∀ (A : Around) (outer : List Env) (s : Shared) (H : Hp) (vs : List V) (Q : VK) (E : XK), sp vs H Q E →
      ∃ (a : Addr) (ta : TA) (t : TS), (L2.start N vs)[0]? = some (some (.ref a)) ∧ H a = some (exo a C none) ∧ PA (cxSup P w K mg base N qual scope f cda cc A outer s H) (e :: es) ta ∧
        PSs (cxSup P w K mg base N qual scope f cda cc A outer s H) rest t ∧
        ta (L2.start N vs) H fun ws H1 => ws.length ≤ 1000 ∧ H1 a = some (exo a C none) ∧ t { nx := fun _ H' => Q .non H', rt := Q } (L2.start N vs) H1)
    {pl : Addr → Sem Bool}
    (hc : ∀ L : Addr, eval (.Call (.Attribute (.Call (.Name "super" p0) [] [] p1) "__init__" p2) (e :: es) [] p3) (PySem.W.ksEnv qual scope L f (.ref cda) cc) = (do
      let ov ← attributeBase (.Call (.Name "super" p0) [] [] p1) "__init__" (PySem.W.ksEnv qual scope L f (.ref cda) cc) (eval (.Call (.Name "super" p0) [] [] p1) (PySem.W.ksEnv qual scope L f (.ref cda) cc))
      standAt p2.atName
      let (fx, first) ← holding [ov] (getMethod ov "__init__" (pl L))
      callWith p3 fx first (backTo p3 (starEach (e :: es) (PySem.W.ksEnv qual scope L f (.ref cda) cc))) []) := by intro _; rfl)
    (hint : ∀ L : Addr, interactive (PySem.W.ksEnv qual scope L f (.ref cda) cc) = false := by intro _; rfl)
    (hsw : ∀ L : Addr, swapsWith (.Call (.Attribute (.Call (.Name "super" p0) [] [] p1) "__init__" p2) (e :: es) [] p3) none p4.line (PySem.W.ksEnv qual scope L f (.ref cda) cc) = pure false := by intro _; rfl)
    (he : ∀ L : Addr, starEach (e :: es) (PySem.W.ksEnv qual scope L f (.ref cda) cc) = (false, eval e (PySem.W.ksEnv qual scope L f (.ref cda) cc)) :: starEach es (PySem.W.ksEnv qual scope L f (.ref cda) cc) := by intro _; rfl)
    (hpl : ∀ L : Addr, (backTo p3 (starEach es (PySem.W.ksEnv qual scope L f (.ref cda) cc))).any (·.1) = false := by intro _; rfl) :
    FnOk P w K mg base CX0 (k + 1) f (PySem.W.ksFn name qual params (.Expr (.Call (.Attribute (.Call (.Name "super" p0) [] [] p1) "__init__" p2) (e :: es) [] p3) p4 :: rest) scope dV kV doc pm an (.ref cda) ct cc) ps sp := by
  refine ⟨len, fun A outer s H args us vs Q E hr e0 hb r hsp => ?_⟩
  have keepB : ∀ b o, base.get? b = some o → s.heap.get? b = some o := fun b o e => (e0.bs b o e).1
  obtain ⟨cl, cld, csl, hcell⟩ := T.cell
  obtain ⟨ccl, cdd, cvs, ccs, file, tf, hcode, hvs, hfile⟩ := T.code
  refine ks_codeAny_call_defAt (fd := PySem.W.ksFn name qual params _ scope dV kV doc pm an (.ref cda) ct cc) (binds := ps.zip us) hr.depth ((e0.mod.kin.keeps keepB) _ _ lk) rfl (e0.mod.nolimit.keeps keepB) (PySem.W.codeRec_of (e0.mod.kin.keeps keepB) hcd) rfl hb S.nocell
    (fun x hx => S.par x.1 (List.of_mem_zip (show (x.1, x.2) ∈ ps.zip us from hx)).1) (fun h₁ hns hk => ?_) S.co S.gen S.kind
  obtain ⟨a, ta, t, hs0, hea, hta, ht, hT⟩ := hbody A outer s H vs Q E hsp
  have I : Inv (cxSup P w K mg base N qual scope f cda cc A outer s H) [] (L2.start N vs) H { s with heap := h₁, toks := s.toks + (ps.zip us).length } := inv_sup S hr.hd e0 (len _ _ _ _ hsp) r hcell hns hk
  have kIn := I.kIn
  obtain ⟨m, hn, hlk⟩ := I.loc
  obtain ⟨u0, hu0, hl0⟩ := hlk 0 ar.arg (.ref a) hself hs0 (.inl (S.par _ hps))
  obtain rfl : u0 = Value.ref a := hu0
  have hma : m ar.arg = some (.ref a) := by
    rcases hl0 with ⟨_, z⟩ | ⟨z, _⟩
    · exact z
    · have k1 : scope.names.lookup ar.arg = some .local := S.par _ hps
      rcases z with z | z
      · have z' : scope.names.lookup ar.arg = some .cell := z
        rw [k1] at z'; cases z'
      · have z' : scope.names.lookup ar.arg = some .free := z
        rw [k1] at z'; cases z'
  obtain ⟨t1, ho⟩ := exo_at I.hok hea
  obtain ⟨nm, q, N', bs, bm, sn, sub, ab, col, dd, k0, k1, k2, k3, k5, hC, hbm⟩ := T.oex.cls
  have hcl : PySem.W.clsIn K C = some { name := nm, bases := bs, mro := .ref C :: bm, ns := N', qualname := q, hasDict := true, slotNames := sn, subclasses := sub, abstract := ab, collection := col, hasDel := false } := by unfold PySem.W.clsIn; rw [hC] <;> rfl
  obtain ⟨mb, hmb, hbb⟩ := I.mod.blt
  have J : PySem.W.InstAt h₁ a { cls := .ref C, dict := none, data := .fields #[.ref t1, .none, .none, .none, .bool false, .none] } C none := ⟨ho, rfl, rfl, trivial⟩
  have hne : a ≠ C := PySem.W.ks_ne kIn J hcl
  show PySem.wpAt (model P w) (A.deeper (PySem.W.ksEnv qual scope s.heap.objs.size f (.ref cda) cc)) (.func _ (PySem.W.ksEnv qual scope s.heap.objs.size f (.ref cda) cc)) (execs _ (PySem.W.ksEnv qual scope s.heap.objs.size f (.ref cda) cc)) _ _ _
  refine ks_wpAt_execs_cons (ks_wpAt_Expr_any (ks_wpAt_MethodCall (pl := pl s.heap.objs.size) (ks_wpAt_super_base (f := f) S.sup S.cls (by decide) rfl (kIn _ _ lk) rfl hp0 rfl (kIn _ _ hcode) rfl hvs hfile T.top ?_) (hc _)) (hint _) (hsw _))
  refine PySem.W.ks_loadName_global S.kind S.sup (PySem.Calls.loadGlobal_builtin (mg := mg) (mb := mb) (I.mod.glob.keeps I.bk) hsup (hmb.keeps I.bk) ((hbb _ (by decide +kernel)).trans (by first | boot_by_name | rfl | kernel_rfl)) ⟨rfl, ?_⟩)
  refine wpAny_loadName_free S.kind S.cls rfl ⟨_, kIn _ _ hcell, rfl⟩ ?_
  refine wpAny_loadName_local S.kind (S.par _ hps) hn hma ?_
  refine ks_wpAny_isType_cls (kIn _ _ hC) rfl ⟨rfl, ?_⟩
  refine ks_wpAny_call_super (kIn _ _ hC) rfl ho rfl (fun c z => by cases z) (PySem.W.looks_mroIn kIn T.self) (fun h2 e2 kk2 => ?_)
  have I2 : Inv (cxSup P w K mg base N qual scope f cda cc A outer s H) [] (L2.start N vs) H { s with heap := h2, toks := s.toks + (ps.zip us).length } := I.kept (t' := s.toks + (ps.zip us).length) kk2
  have hm2 := T.up
  unfold PySem.W.ks_superIn at hm2
  rw [hcl] at hm2
  have J2 : PySem.W.InstAt h2 a { cls := .ref C, dict := none, data := .fields #[.ref t1, .none, .none, .none, .bool false, .none] } C none := ⟨kk2 _ _ ho, rfl, rfl, trivial⟩
  refine PySem.W.kxs_getMethod T.oex.ok.sup e2 (PySem.W.looks_opaque I2.kIn T.opq) (l₀ := .ref C :: bm) (fun A Q E s k q => wpAny_bind ((PySem.W.looks_clsIn I2.kIn hcl) A _ E s k (wpAny_pure q))) rfl I2.kIn hm2
    (J2.type.andThen (PySem.W.looks_subIn I2.kIn T.sub)) hne (by decide) ?_
  have kk3 : ∀ b' o, h2.get? b' = some o → (h2.push (PySem.W.kxs_mw b.ini a)).get? b' = some o := fun b' o z => Heap.get?_push_of_some _ z
  have I3 : Inv (cxSup P w K mg base N qual scope f cda cc A outer s H) [] (L2.start N vs) H { s with heap := h2.push (PySem.W.kxs_mw b.ini a), toks := s.toks + (ps.zip us).length + 1 } := I2.kept (t' := s.toks + (ps.zip us).length + 1) kk3
  have I4 : Inv (cxSup P w K mg base N qual scope f cda cc A outer s H) [(h2.objs.size, PySem.W.kxs_mw b.ini a)] (L2.start N vs) H { s with heap := h2.push (PySem.W.kxs_mw b.ini a), toks := s.toks + (ps.zip us).length + 1 } :=
    ⟨I3.ok, I3.os, I3.bare, I3.base, I3.loc, I3.cell, I3.free, I3.freeC, fun p hp => by
      have hp' : p = (h2.objs.size, PySem.W.kxs_mw b.ini a) := List.mem_singleton.mp hp
      subst hp'
      exact ⟨Heap.get?_push_at rfl rfl, I2.hok.fresh (Nat.le_refl _), Nat.ne_of_gt I2.lt, I2.nofs (Nat.le_refl _), fun v z => by cases z⟩, I3.hok, I3.len⟩
  have hev := he s.heap.objs.size
  have hpv := hpl s.heap.objs.size
  show wpAny (model P w) _ (callWith p3 (.ref h2.objs.size) [] (backTo p3 (starEach (e :: es) (PySem.W.ksEnv qual scope s.heap.objs.size f (.ref cda) cc))) []) _ _ _
  have ru := hta.run p3 _ _ _ _ _ I4 hT
  have ru' : wpAny (model P w) (A.deeper (PySem.W.ksEnv qual scope s.heap.objs.size f (.ref cda) cc)) (spliced (backTo p3 (starEach (e :: es) (PySem.W.ksEnv qual scope s.heap.objs.size f (.ref cda) cc)))) _ (fun _ _ => False) _ := ru
  rw [hev] at ru' ⊢
  refine PySem.W.kxs_callWith (i := b.ini) (x := a) (by show (false || (backTo p3 (starEach es _)).any (·.1)) = false; rw [hpv]; rfl) (PySem.Calls.evalArgs_plain ?_)
  refine wpAny_mono ru' (fun ws s5 h5 => ?_) fun _ _ z => z.elim
  obtain ⟨vs5, H5, I5, r5, hl5, he5, hT5⟩ := h5
  have hu5 := (I5.pin _ (List.mem_append_right _ List.mem_cons_self)).1
  refine ⟨hu5, ?_⟩
  refine boundG T.oex I5 he5 hu5 (by show ws.length ≤ sizeLine; rw [← Paired.length r5, sizeLine_eq]; omega) fun s6 I6 => ?_
  have go := ht.run _ _ _ _ _ I6 hT5
  refine wpAt_of_wpAny ?_
  refine wpAny_mono go (fun fl s7 h7 => ?_) fun _ _ z => z.elim
  match fl, h7 with
  | .ret u, ⟨v, σ2, H2, J7, rv, q7⟩ => exact ⟨v, H2, J7.os, J7.bare, J7.base, J7.hok, rv, q7⟩
  | .next, ⟨σ2, H2, J7, q7⟩ => exact ⟨V.non, H2, J7.os, J7.bare, J7.base, J7.hok, rfl, q7⟩
  | .brk, ⟨_, _, _, q7⟩ => exact q7.elim
  | .cont, ⟨_, _, _, q7⟩ => exact q7.elim
end
end Cr
/-! len(o) by an own __len__ -/
namespace Cr
open PySem PySem.Spec PyProof.Rows L2 Evl
theorem Env0.in1 {P : Program} {w : World} {K : PySem.W.Frag} {mg : Str → Option Value} {base : Heap} {A : Around} {outer : List Env} {s : Shared} {H : Hp} (e : Env0 P w K mg base A outer s H) : Env0 P w K mg base A.in1 outer s H :=
  ⟨e.frames, e.mod, e.bs, e.bsz, e.funs, e.frf, e.hok, e.bare⟩
/-- a special method of an own class, called by a built-in -/
theorem special_own {X : Cx} {pins : List (Addr × Obj)} {σ : L2.St} {H : Hp} {s : Shared} {a C dx f : Addr} {fs : List (Str × V)} {name : Str} {k : Nat} {fd : FuncData} {ps : List Str} {sp : Sp} {A : Around} {us : List Value} {vs : List V} {Q : VK} {R : Option Value → Shared → Prop} {E : Value → Shared → Prop}
    (hL : PySem.W.findIn X.K (.ref C) name = some (some (.ref f))) (tF : PySem.W.typeIn X.K (.ref f) = some (.type "function")) (F : FnOk X.prog X.w X.K X.mg X.base CX0 k f fd ps sp) (hb : Binds X.K fd ps [])
    (hr : Room k A) (e0 : Env0 X.prog X.w X.K X.mg X.base A X.stack s H) (I : Inv X pins σ H s) (ha : H a = some (.ins C dx fs)) (r : Vals vs us) (h : sp (.ref a :: vs) H Q E0)
    (k : ∀ v u H' s', Inv X pins σ H' s' → RelV v u → Q v H' → R (some u) s') : wpAny (model X.prog X.w) A (callSpecial? (.ref a) name us) R E s := by
  obtain ⟨mA, J, _⟩ := ins_get I.hok ha
  obtain ⟨od, J, _⟩ := J.look
  have look : PySem.W.Looks (model X.prog X.w) s.heap (specialOf (.ref a) name) (some (.ref f)) := J.type.andThen (PySem.W.looks_findIn I.kIn hL)
  simp only [callSpecial?]
  refine wpAny_bind (look.at ?_)
  refine wpAny_holding (wpAny_bind ((PySem.W.bind_fn I.kIn (.ref a) tF).at ?_))
  refine wpAny_bind ?_
  have rel : Vals (V.ref a :: vs) (Value.ref a :: us) := .cons rfl r
  have size : (Value.ref a :: us).length = ps.length := rel.length.symm.trans (F.len _ _ _ _ h)
  refine wpAny_call (codeAny_mono (F.run A X.stack s H ⟨.ref a :: us, []⟩ (.ref a :: us) (.ref a :: vs) Q E0 hr e0 (by
    have z := hb s (.ref a :: us) I.kIn (by simpa using size)
    simpa using z) rel h) fun res s' z => ?_)
  match res, z with
  | .error _, z => exact z.elim
  | .ok .next, z => exact False.elim z
  | .ok .brk, z => exact False.elim z
  | .ok .cont, z => exact False.elim z
  | .ok (.ret u), z =>
    obtain ⟨v, H', I', rv, q⟩ := I.after z
    exact wpAny_pure (k v u H' s' I' rv q)
def rLenO (C : Addr) (sp : Sp) : List V → Hp → VK → Prop := fun xs H Q => ∃ (a dx : Addr) (fs : List (Str × V)), xs = [.ref a] ∧ H a = some (.ins C dx fs) ∧ sp [.ref a] H (fun v H' => ∃ n : Nat, v = .int (n : Int) ∧ n ≤ 100000 ∧ Q (.int (n : Int)) H') E0
theorem call_lenO {X : Cx} {C f : Addr} {k : Nat} {fd : FuncData} {ps : List Str} {sp : Sp} (hL : PySem.W.findIn X.K (.ref C) "__len__" = some (some (.ref f))) (tF : PySem.W.typeIn X.K (.ref f) = some (.type "function"))
    (F : FnOk X.prog X.w X.K X.mg X.base CX0 k f fd ps sp) (hb : Binds X.K fd ps []) (hr : Room (k + 1) X.A) : CallR X (.builtin "len") (rLenO C sp) := by
  intro pins s σ H xs us Q I r h
  obtain ⟨a, dx, fs, rfl, ha, h⟩ := h
  obtain ⟨u, rfl, ru⟩ := vals1 r
  obtain rfl : u = Value.ref a := ru
  refine Calls.call_function_entry kind_len plain_len entry_len (args_len1 _) ?_
  unfold Builtin.«len»
  refine wpAny_bind (m := oneArg "len" _) (wpAny_pure ?_)
  refine wpAny_bind (m := callSpecial? (.ref a) (PySem.Str.ofString "__len__")) (special_own (us := []) (vs := []) hL tF F hb hr.in1 (Env0.in1 I.env0) I ha .nil h ?_)
  rintro v u H' s' I' rv ⟨n, rfl, hn, q⟩
  obtain ⟨t, rfl⟩ := rv
  refine wpAny_bind (wpAny_holding (wpAny_pure ?_))
  refine wpAny_bind (wpAny_letGo ?_)
  show wpAny _ _ (if ((n : Nat) : Int) < 0 then _ else _) _ _ _
  rw [if_neg (by omega)]
  show wpAny _ _ (if ((n : Nat) : Int) ≥ 2 ^ 63 then _ else _) _ _ _
  rw [if_neg (by omega)]
  exact wpAny_bind (wpAny_mkInt (wpAny_pure ⟨_, rfl, .int (n : Int), H', I'.tok _, ⟨_, rfl⟩, q⟩))
end Cr
/-! methods that may raise, called in a try -/
namespace Cr
open PySem PySem.Spec PyProof.Rows L2 Evl
def tMethS (C : Addr) (m : Str) (sp : Sp) (E : L2.St → XK) (ta : TE) (t : TA) : TE := fun σ H Q => ta σ H fun x H1 => ∃ a dx fs, x = .ref a ∧ H1 a = some (.ins C dx fs) ∧ fs.lookup m = none ∧ t σ H1 fun vs H2 => sp (x :: vs) H2 Q (E σ)
section
variable {X : Cx} {CX : CXT} {k : Nat} {f C : Addr} {fd : FuncData} {ps : List Str} {sp : Sp} {E : L2.St → XK} {m : Str} {pos apos : Pos} {e o : Expr} {es : List Expr} {ta : TE} {t : TA}
theorem methS {pl : Sem Bool} (he : PE X o ta) (c : Cls X.K C) (hm : Meth X.K C m f) (F : FnOk X.prog X.w X.K X.mg X.base CX k f fd ps sp) (hr : Room k X.A) (hb : Binds X.K fd ps []) (hx : ∀ σ, PassesAt CX X σ (E σ)) (ha : PA X (e :: es) t)
    (hst : starEach (e :: es) X.env = (false, eval e X.env) :: starEach es X.env := by rfl) (hpl : (backTo pos (starEach es X.env)).any (·.1) = false := by rfl)
    (ht : eval (.Call (.Attribute o m apos) (e :: es) [] pos) X.env = (do
      let ov ← eval o X.env
      standAt apos.atName
      let (f, first) ← holding [ov] (getMethod ov m pl)
      callWith pos f first (backTo pos (starEach (e :: es) X.env)) (backToKw pos (keywordEach [] X.env))) := by rfl) : PE X (.Call (.Attribute o m apos) (e :: es) [] pos) (tMethS C m sp E ta t) := by
  constructor
  intro pins s σ H Q I h
  refine PySem.W.methodCall_KW (pl := pl) (thn (he.run pins s σ H _ I h) ?_) ht
  rintro u s1 ⟨x, H1, I1, rx, a, dx, fs, rfl, ea, l, q⟩
  obtain rfl : u = Value.ref a := rx
  refine getmeth_ok I1 ea c hm l ?_
  refine PySem.W.callWith_K (first := [.ref a]) (h₀ := X.base) I.ok.mod.kin hm.kp (thn (ha.run pos pins s1 σ H1 _ I1 q) ?_) hst hpl
  rintro us s2 ⟨vs, H2, I2, r, q2⟩
  exact ⟨I2.kIn, run_fnS (us := .ref a :: us) (vs := .ref a :: vs) F hr hb (hx σ) I2 (.cons rfl r) q2⟩
end
end Cr
/-! defs that may raise, where no repr is under way; a caught error asked -/
namespace Cr
open PySem PySem.Spec PyProof.Rows L2 Evl
/-! ### isinstance of a caught error that has its dict -/
def rIsX (K : PySem.W.Frag) (D a dd : Addr) : List V → Hp → VK → Prop := fun xs H Q => ∃ (c : V) (b : Bool), xs = [.ref a, c] ∧ (∃ fs, H dd = some (.xd fs)) ∧
  ((∃ u, ClsV c u ∧ PySem.W.kitOne K (.ref D) u = some b) ∨ ∃ (tp : Addr) (cs : List V) (us : List Value), c = .ref tp ∧ H tp = some (.tup cs) ∧ Paired ClsV cs us ∧ PySem.W.kitAny K (.ref D) us = some b) ∧ Q (.bl b) H
theorem call_isX {X : Cx} {a D dd : Addr} {oe : Obj} {pn : List (Addr × Obj)} (C : ExcC X.K D) (hz : Zc (.ref D) (some dd) oe) (hf : ∃ vs, oe.data = .fields vs) : CallR (X.suite a ((a, oe) :: pn)) (.builtin "isinstance") (rIsX X.K D a dd) := by
  intro pins s σ H xs us Q I r h
  obtain ⟨c, b, rfl, ⟨fs, hdd⟩, k, q⟩ := h
  obtain ⟨u1, u2, rfl, r1, r2⟩ := vals2 r
  obtain rfl : u1 = Value.ref a := r1
  obtain ⟨hget, _⟩ := I.pin (a, oe) (List.mem_append.mpr (.inl List.mem_cons_self))
  obtain ⟨vs, hv⟩ := hf
  have hx : ObjOk X.prog X.w H s.heap dd (.xd fs) := I.hok dd _ hdd
  obtain ⟨mA, hns, hr⟩ := hx
  obtain ⟨od, ho, _⟩ := lookIn_ns hns
  have J : PySem.W.InstAt s.heap a oe D (some od) := by
    refine ⟨hget, hz.1, by unfold PySem.W.notCls; rw [hv] <;> rfl, ?_⟩
    rw [hz.2]
    exact ho
  have hcl : (PySem.W.clsIn X.K D).isSome = true := by
    obtain ⟨cd, hc, _⟩ := PySem.W.any_some C.hd
    rw [hc]; rfl
  have Z : PySem.W.KitX X.K (.ref a) (.ref D) (fun h => PySem.W.InstAt h a oe D (some od)) := PySem.W.kitx_exc hcl C.hg C.hk C.hs C.ha C.hn C.ht C.hm
  rcases k with ⟨u, ku, e⟩ | ⟨tp, cs, us', rfl, hT, ku, e⟩
  · have e2 := ku.eq r2
    subst e2
    exact PySem.W.kia_one Z I.kIn J e (fun z => nomatch z) fun tk => ⟨.bl b, H, I.tok tk, rfl, q⟩
  · cases (show u2 = Value.ref tp from r2)
    obtain ⟨_, its, rv, o, h1, h2, n, h3⟩ := (show ObjOk X.prog X.w H s.heap tp (.tup cs) from I.hok tp _ hT)
    have e3 := ClsV.all ku rv
    subst e3
    obtain ⟨oc, od', dt, sl⟩ := o
    simp only at h2 h3
    subst h2 h3
    exact PySem.W.kia_tup Z I.kIn J h1 e (fun z => nomatch z) fun tk => ⟨.bl b, H, I.tok tk, rfl, q⟩
/-! ### an error with one number -/
/-- its __init__: the number in the field f -/
def spInit (C : Addr) (f : Str) : Sp := fun vs H Q _ => ∃ (a : Addr) (i : Int), vs = [.ref a, .int i] ∧ i.natAbs.log2 < 1000 ∧ H a = some (exo a C none) ∧
  ∀ dx, H dx = none → dx ≠ a → Q .non (upd (upd H dx (exd dx [(f, .int i)])) a (exo a C (some dx)))
theorem mk_num {C : Addr} {f : Str} {ta : TA} {σ : L2.St} {H : Hp} {Q : XK} (h : ta σ H fun vs H1 => ∃ i : Int, vs = [.int i] ∧ i.natAbs.log2 < 1000 ∧ ∀ dx, H1 dx = none → Q (.ref C) (some dx) (upd H1 dx (.xd [(f, .int i)])))
    (mono : ∀ {σ : L2.St} {H : Hp} {R S : List V → Hp → Prop}, (∀ vs H1, R vs H1 → S vs H1) → ta σ H R → ta σ H S) : tMkO C (spInit C f) [] ta σ H Q := by
  refine mono (fun vs H1 hh => ?_) h
  obtain ⟨i, rfl, hi, q⟩ := hh
  refine ⟨by show 1 ≤ 1000; decide, fun a ha => ⟨a, i, rfl, hi, upd_same, fun dx hdx ne => ⟨rfl, dx, [(f, .int i)], upd_same, ?_, ?_, ?_⟩⟩⟩
  · rw [upd_ne ne, upd_same]
  · rw [upd_ne ne] at hdx
    exact hdx
  · have e : upd (del (upd (upd (upd H1 a (exo a C none)) dx (exd dx [(f, .int i)])) a (exo a C (some dx))) a) dx (.xd [(f, .int i)]) = upd H1 dx (.xd [(f, .int i)]) := by
      funext b
      by_cases hb : b = dx
      · rw [hb, upd_same, upd_same]
      · rw [upd_ne hb, upd_ne hb]
        by_cases hba : b = a
        · rw [hba, del_same, ha]
        · rw [del_ne hba, upd_ne hba, upd_ne hb, upd_ne hba]
    rw [e]
    rw [upd_ne ne] at hdx
    exact q dx hdx
end Cr
/-! the program's own defs -/
namespace Cr
open PySem PySem.Spec PyProof.Rows L2 Evl
def topS (i : Nat) : Stmt := PySem.Challenge.pw_cycleready_k14_libraries_told.main.body.getD i (.Pass ⟨0, 0, 0, 0⟩)
abbrev sIsInteger : Stmt := topS 11
abbrev sIsName : Stmt := topS 12
abbrev sIsVariable : Stmt := topS 14
abbrev sIsItem : Stmt := topS 18
abbrev sIsStep : Stmt := topS 19
theorem scIsInteger : FnScope ["value"] ["value"] (defScope sIsInteger) := ⟨rfl, rfl, rfl, by decide +kernel, rfl, by decide +kernel, by decide +kernel⟩
theorem scIsName : FnScope ["value", "letter"] ["value"] (defScope sIsName) := ⟨rfl, rfl, rfl, by decide +kernel, rfl, by decide +kernel, by decide +kernel⟩
theorem scIsVariable : FnScope ["value"] ["value"] (defScope sIsVariable) := ⟨rfl, rfl, rfl, by decide +kernel, rfl, by decide +kernel, by decide +kernel⟩
theorem scIsItem : FnScope ["value", "kind"] ["value", "kind"] (defScope sIsItem) := ⟨rfl, rfl, rfl, by decide +kernel, rfl, by decide +kernel, by decide +kernel⟩
theorem scIsStep : FnScope ["value", "shape", "item", "kind"] ["value"] (defScope sIsStep) := ⟨rfl, rfl, rfl, by decide +kernel, rfl, by decide +kernel, by decide +kernel⟩
/-- the built-ins are the built-ins -/
structure Blt (mg : Str → Option Value) : Prop where
  isi : mg "isinstance" = none
  int : mg "int" = none
  bool : mg "bool" = none
  str : mg "str" = none
  tuple : mg "tuple" = none
  list : mg "list" = none
  len : mg "len" = none
  all : mg "all" = none
  zip : mg "zip" = none
  repr : mg "repr" = none
  range : mg "range" = none
  max : mg "max" = none
  min : mg "min" = none
  abs : mg "abs" = none
  divmod : mg "divmod" = none
  enum : mg "enumerate" = none
  sorted : mg "sorted" = none
  sup : mg "super" = none
  verr : mg "ValueError" = none
  rerr : mg "RuntimeError" = none
  dict : mg "dict" = none
  lerr : mg "LookupError" = none
  kerr : mg "KeyError" = none
  aerr : mg "ArithmeticError" = none
  set : mg "set" = none
  any : mg "any" = none
theorem bLerr : bootBuiltins "LookupError" = some (.type "LookupError") := by decide +kernel
theorem bKerr : bootBuiltins "KeyError" = some (.type "KeyError") := by decide +kernel
theorem bIsi : bootBuiltins "isinstance" = some (.builtin "isinstance") := by decide +kernel
theorem bLen : bootBuiltins "len" = some (.builtin "len") := by decide +kernel
theorem bAll : bootBuiltins "all" = some (.builtin "all") := by decide +kernel
theorem bRepr : bootBuiltins "repr" = some (.builtin "repr") := by decide +kernel
theorem bInt : bootBuiltins "int" = some (.type "int") := by decide +kernel
theorem bBool : bootBuiltins "bool" = some (.type "bool") := by decide +kernel
theorem bStr : bootBuiltins "str" = some (.type "str") := by decide +kernel
theorem bTuple : bootBuiltins "tuple" = some (.type "tuple") := by decide +kernel
theorem bDict : bootBuiltins "dict" = some (.type "dict") := by decide +kernel
theorem bList : bootBuiltins "list" = some (.type "list") := by decide +kernel
/-! ### what they say -/
def isInteger (d : PyData) : Bool := isT "int" d && !isT "bool" d
def atLeast (n : Int) : PyData → Bool
  | .int i => decide (n ≤ i)
  | _ => false
def isNameS (x : Str) : Bool := (decide ((1 : Int) ≤ x.length) && decide ((x.length : Int) ≤ 8)) && x.cps.toList.all isLow
def isName : PyData → Bool
  | .str x => isNameS x
  | _ => false
def vars4 : List Str := ["a", "b", "c", "d"]
def isVar : PyData → Bool
  | .str x => vars4.any fun y => y == x
  | _ => false
section
variable {P : Program} {w : World} {K : PySem.W.Frag} {mg : Str → Option Value} {base : Heap}
theorem memI : "int" ∈ ["int", "bool", "str", "list", "tuple", "dict"] := by decide
theorem memB : "bool" ∈ ["int", "bool", "str", "list", "tuple", "dict"] := by decide
theorem memS : "str" ∈ ["int", "bool", "str", "list", "tuple", "dict"] := by decide
theorem memT : "tuple" ∈ ["int", "bool", "str", "list", "tuple", "dict"] := by decide
theorem ok_isInteger {f : Addr} {fd : FuncData} {k : Nat} (F : Fun K "is_integer" "is_integer" sIsInteger f fd) (B : Blt mg) : FnOk P w K mg base CX0 (k + 1) f fd ["value"] (spD isInteger) := by
  refine F.ok scIsInteger spD_len (fun cdv A outer s H vs Q E hr h => ?_)
  obtain ⟨v, d, rfl, hd, _, q⟩ := h
  refine ⟨_, pss_one (ps_ret (pe_and (pe_callB call_isi (by rfl) B.isi bIsi (pa_cons (pv 0) (pa_cons (pe_bltn (v := .ty "int") (by rfl) B.int bInt rfl) pa_nil)))
    (pe_one (pe_not (pe_callB call_isi (by rfl) B.isi bIsi (pa_cons (pv 0) (pa_cons (pe_bltn (v := .ty "bool") (by rfl) B.bool bBool rfl) pa_nil))))))), ?_⟩
  refine s_ret (ev_andV (ev_cb (ea_cons (ev_var rfl) (ea_cons ev_c ea_nil)) (rc_isi hd memI)) fun _ => ev_notV (ev_cb (ea_cons (ev_var rfl) (ea_cons ev_c ea_nil)) (rc_isi hd memB))) q
theorem ok_isName {f : Addr} {fd : FuncData} {k : Nat} (F : Fun K "is_name" "is_name" sIsName f fd) (B : Blt mg) {tL : Tok} (gL : mg "LONGEST_NAME" = some (.int 8 tL)) : FnOk P w K mg base CX0 (k + 1) f fd ["value"] (spD isName) := by
  refine F.ok scIsName spD_len (fun cdv A outer s H vs Q E hr h => ?_)
  obtain ⟨v, d, rfl, hd, hs, q⟩ := h
  refine ⟨_, pss_cons (ps_if (PW.pt (pw_or (pt_not (pt_val (pe_callB call_isi (by rfl) B.isi bIsi (pa_cons (pv 0) (pa_cons (pe_bltn (v := .ty "str") (by rfl) B.str bStr rfl) pa_nil)))))
      (pw_or1 (pt_not (pt_chain op_le op_le pe_int (pe_callB call_len_str (by rfl) B.len bLen (pa_cons (pv 0) pa_nil)) (pe_glob (v := .int 8) (by rfl) gL ⟨_, rfl⟩))))))
      (pss_one (ps_ret pe_bl)) pss_nil)
    (pss_one (ps_ret (pe_callB (cr_all rfl) (by rfl) B.all bAll (pa_cons
      (pe_lc (own := [("letter", 1)]) (g := gName 1) (tt := tYes) rfl scIsName.nd (pi_str (pv 0)) (blkOk_by (own := [("letter", 1)]) (N := ["value", "letter"]) (sc := defScope sIsName) (by decide +kernel))
        (fun _ _ _ _ _ => pg_name (i := 1) scIsName.nd rfl (Or.inl rfl)) (fun _ _ _ _ _ => pts_nil) (fun _ _ _ _ _ => pe_chain op_leS op_leS pe_str (pv 1) pe_str)) pa_nil)))), ?_⟩
  have isS := rc_isi (K := K) hd memS
  cases hd with
  | str x =>
    have hx : x.length ≤ 1000 := by
      rw [sm] at hs
      exact of_decide_eq_true hs
    refine q_when (et_or (et_not (et_B (ev_cb (ea_cons (ev_var rfl) (ea_cons ev_c ea_nil)) isS))) fun _ => et_not (et_test (ev_chain ev_c (ev_cb (ea_cons (ev_var rfl) ea_nil) (rc_lenS hx)) rv_I0 (fun _ => ev_c) fun _ => rv_I0))) (fun hb H1 e1 => ?_) (fun hb H1 e1 => ?_)
    · refine s_ret ev_c fun H2 e2 => ?_
      have z : isName (.str x) = false := by
        have hb' : (!(isT "str" (.str x)) || !(decide ((1 : Int) ≤ x.length) && decide ((x.length : Int) ≤ 8))) = true := hb
        have e : isT "str" (.str x) = true := rfl
        rw [e, Bool.not_true, Bool.false_or] at hb'
        show ((decide ((1 : Int) ≤ x.length) && decide ((x.length : Int) ≤ 8)) && x.cps.toList.all isLow) = false
        rw [Bool.not_eq_true'] at hb'
        rw [hb', Bool.false_and]
      have g := q H2 (e1.trans e2)
      rw [z] at g
      exact g
    · have ch : ∀ c : Nat, (!decide ((⟨#[c]⟩ : Str).cps.toList < (("a" : Str)).cps.toList) && !decide ((("z" : Str)).cps.toList < (⟨#[c]⟩ : Str).cps.toList)) = isLow c := fun c => by
        have ea : (("a" : Str)).cps.toList = [97] := by decide +kernel
        have ez : (("z" : Str)).cps.toList = [122] := by decide +kernel
        have ec : (⟨#[c]⟩ : Str).cps.toList = [c] := rfl
        rw [ea, ez, ec, one_lt, one_lt]
        unfold isLow
        congr 1
        · by_cases hc : 97 ≤ c
          · rw [decide_eq_true hc, decide_eq_false (show ¬ c < 97 by omega)]; rfl
          · rw [decide_eq_false hc, decide_eq_true (show c < 97 by omega)]; rfl
        · by_cases hc : c ≤ 122
          · rw [decide_eq_true hc, decide_eq_false (show ¬ 122 < c by omega)]; rfl
          · rw [decide_eq_false hc, decide_eq_true (show 122 < c by omega)]; rfl
      have lc := el_lcW (wi := iStr (tVar 0)) (g := gName 1) (tt := tYes) (te := tChain rLeS rLeS (tC (.str "a")) (tVar 1) (tC (.str "z"))) (vs := [1]) (σ := start ["value", "letter"] [V.str x]) (H := H1) (fun _ => true) (fun i => .bl (isLow (x.cps.toList.getD i 0))) (Y := fun i H v H' => H' = H ∧ ∃ c, x.cps[i]? = some c ∧ v = .str ⟨#[c]⟩) (n := x.cps.size) (by have : x.cps.size = x.length := rfl; omega)
        (fun H2 e R r => ⟨.str x, rfl, x, rfl, r H2 _ _ walk_str (fun _ _ _ z => z) (Ex.refl H2) trivial⟩) (fun i y H2 H3 e hi hy => by
          obtain ⟨rfl, c, hc, rfl⟩ := hy
          refine ⟨Ex.refl _, [some (.str x), some (.str ⟨#[c]⟩)], rfl, fun R r => r, fun H4 _ Q q => q H4 (Ex.refl H4), fun _ => ?_⟩
          have ec : x.cps.toList.getD i 0 = c := by
            rw [List.getD, Array.getElem?_toList, hc]; rfl
          show Ev _ _ _ (.bl (isLow (x.cps.toList.getD i 0)))
          rw [ec, ← ch c]
          exact ev_chain ev_c (ev_var rfl) rv_leS (fun _ => ev_c) fun _ => rv_leS)
      have e1' : given x.cps.size (fun _ => true) (fun i => V.bl (isLow (x.cps.toList.getD i 0))) = ((List.range x.cps.size).map fun i => isLow (x.cps.toList.getD i 0)).map V.bl := by
        rw [given_all, List.map_map]; rfl
      rw [e1'] at lc
      refine s_ret (ev_all lc) fun H2 e2 => ?_
      have hb' : (!(isT "str" (.str x)) || !(decide ((1 : Int) ≤ x.length) && decide ((x.length : Int) ≤ 8))) = false := hb
      have e : isT "str" (.str x) = true := rfl
      rw [e, Bool.not_true, Bool.false_or, Bool.not_eq_false'] at hb'
      have z : isName (.str x) = ((List.range x.cps.size).map fun i => isLow (x.cps.toList.getD i 0)).all id := by
        show ((decide ((1 : Int) ≤ x.length) && decide ((x.length : Int) ≤ 8)) && x.cps.toList.all isLow) = _
        rw [hb', Bool.true_and, ← all_range x.cps.toList 0 isLow]
        rfl
      have g := q H2 (e1.trans e2)
      rw [z] at g
      exact g
  | _ =>
    refine q_when (b := true) (et_is (et_or (et_not (et_B (ev_cb (ea_cons (ev_var rfl) (ea_cons ev_c ea_nil)) isS))) (b := false) fun z => absurd z (by first | decide | simp [isT, isTs, tyT])) (by first | decide | simp [isT, isTs, tyT])) (fun _ H1 e1 => s_ret ev_c fun H2 e2 => q H2 (e1.trans e2)) (fun z => absurd z (by decide))
end
end Cr
namespace Cr
open PySem PySem.Spec PyProof.Rows L2 Evl
/-- a tuple of the module's top -/
def KTup (K : PySem.W.Frag) (a : Addr) (xs : List V) : Prop := ∃ (o : Obj) (its : Array Value) (n : Nat), K.lookup a = some o ∧ o.cls = .type "tuple" ∧ o.data = .seq its n ∧ its.size ≤ sizeLine ∧ Vals xs its.toList
theorem KTup.sq {K : PySem.W.Frag} {H : Hp} {a : Addr} {xs : List V} (h : KTup K a xs) : SqT K H a xs := .inr h
/-! ### the mirror -/
def isItem (d : PyData) (k : Str) : Bool :=
  if k = "variable" then isVar d
  else if k = "integer" then isInteger d
  else if k = "length" then isInteger d && atLeast 1 d
  else isName d
def shapeOf (z : Str) : Option (List Str) :=
  if z = "set" then some ["variable", "integer"] else if z = "add" then some ["variable", "variable"] else if z = "skip" then some ["variable", "length"]
  else if z = "export" then some ["name", "variable"] else if z = "read" then some ["variable", "module", "name"] else if z = "need" then some ["module"]
  else if z = "try" then some ["module", "variable"] else if z = "fail" then some [] else none
def stepItems (ds : List PyData) (ks : List Str) : Bool := ((List.range ks.length).map fun i => isItem (ds.getD i .none) (ks.getD i "")).all id
def isStep : PyData → Bool
  | .tuple (.str z :: ds) => (match shapeOf z with
    | some ks => decide (ds.length = ks.length) && stepItems ds ks
    | none => false)
  | _ => false
def plain3 : List Str := ["set", "add", "skip"]
def isPlain (d : PyData) : Bool := isStep d && (match d with
  | .tuple (.str z :: _) => plain3.any fun y => y == z
  | _ => false)
/-- the table of shapes, as the top left it -/
structure Shapes (K : PySem.W.Frag) (w : World) (dS : Addr) (es : Array DictEntry) (n : Nat) : Prop where
  kd : KDict K w dS es n
  no : ∀ z, shapeOf z = none → PySem.W.nsIn K dS z = some none
  yes : ∀ z ks, shapeOf z = some ks → ∃ a, PySem.W.nsIn K dS z = some (some (.ref a)) ∧ KTup K a (ks.map V.str)
theorem inV_strs (z : Str) (l : List Str) : inV (.str z) (l.map V.str) = l.any fun y => y == z := by
  unfold inV
  rw [List.any_map]
  rfl
theorem flat_strs (l : List Str) : (l.map V.str).all flatV = true := by
  rw [List.all_map]
  exact List.all_eq_true.mpr fun _ _ => rfl
/-- is_item's promise -/
def spItem : Sp := fun vs H Q _ => ∃ v d k, vs = [v, .str k] ∧ Dt H v d ∧ sm d = true ∧ ∀ H', Ex H H' → Q (.bl (isItem d k)) H'
section
variable {P : Program} {w : World} {K : PySem.W.Frag} {mg : Str → Option Value} {base : Heap}
theorem ok_isVar {f aV : Addr} {fd : FuncData} {k : Nat} (F : Fun K "is_variable" "is_variable" sIsVariable f fd) (B : Blt mg) (gV : mg "VARIABLES" = some (.ref aV)) (tV : KTup K aV (vars4.map V.str)) : FnOk P w K mg base CX0 (k + 1) f fd ["value"] (spD isVar) := by
  refine F.ok scIsVariable spD_len (fun cdv A outer s H vs Q E hr h => ?_)
  obtain ⟨v, d, rfl, hd, _, q⟩ := h
  refine ⟨_, pss_one (ps_ret (pe_and (pe_callB call_isi (by rfl) B.isi bIsi (pa_cons (pv 0) (pa_cons (pe_bltn (v := .ty "str") (by rfl) B.str bStr rfl) pa_nil)))
    (pe_one (pe_cmpR op_in_seq (pv 0) (pe_glob (v := .ref aV) (by rfl) gV rfl) (by rfl))))), ?_⟩
  have isS := rc_isi (K := K) hd memS
  cases hd with
  | str x =>
    refine s_ret (v := .bl (isVar (.str x))) (ev_is (ev_andV (b := inV (.str x) (vars4.map V.str)) (ev_cb (ea_cons (ev_var rfl) (ea_cons ev_c ea_nil)) isS) fun _ => ev_op (ev_var rfl) ev_c (rv_isT tV.sq rfl (flat_strs _))) ?_) q
    rw [inV_strs]
    rfl
  | _ => exact s_ret (ev_andV (b := false) (ev_cb (ea_cons (ev_var rfl) (ea_cons ev_c ea_nil)) isS) fun z => absurd z (by first | decide | simp [isT, isTs, tyT])) (by first | exact q | simpa [isT, isTs, tyT, isVar] using q)
theorem ok_isItem {f fI fV fN : Addr} {fd fdI fdV fdN : FuncData} {k : Nat} (F : Fun K "is_item" "is_item" sIsItem f fd)
    (GI : FnOk P w K mg base CX0 k fI fdI ["value"] (spD isInteger)) (bI : Binds K fdI ["value"] []) (kI : PySem.W.keepIn K (.ref fI) = true) (gI : mg "is_integer" = some (.ref fI))
    (GV : FnOk P w K mg base CX0 k fV fdV ["value"] (spD isVar)) (bV : Binds K fdV ["value"] []) (kV : PySem.W.keepIn K (.ref fV) = true) (gV : mg "is_variable" = some (.ref fV))
    (GN : FnOk P w K mg base CX0 k fN fdN ["value"] (spD isName)) (bN : Binds K fdN ["value"] []) (kN : PySem.W.keepIn K (.ref fN) = true) (gN : mg "is_name" = some (.ref fN)) :
    FnOk P w K mg base CX0 (k + 1) f fd ["value", "kind"] spItem := by
  refine F.ok scIsItem (fun vs H Q E h => by obtain ⟨_, _, _, rfl, _⟩ := h; rfl) (fun cdv A outer s H vs Q E hr h => ?_)
  obtain ⟨v, d, kd, rfl, hd, hs, q⟩ := h
  refine ⟨_, pss_cons (ps_if (pt_cmpR op_eq (pv 1) pe_str (nomark _)) (pss_one (ps_ret (pe_call GV hr (by rfl) gV kV bV .nil pass0 (pa_cons (pv 0) pa_nil)))) pss_nil)
    (pss_cons (ps_if (pt_cmpR op_eq (pv 1) pe_str (nomark _)) (pss_one (ps_ret (pe_call GI hr (by rfl) gI kI bI .nil pass0 (pa_cons (pv 0) pa_nil)))) pss_nil)
    (pss_cons (ps_if (pt_cmpR op_eq (pv 1) pe_str (nomark _)) (pss_one (ps_ret (pe_and (pe_call GI hr (by rfl) gI kI bI .nil pass0 (pa_cons (pv 0) pa_nil)) (pe_one (pe_cmpR op_ge (pv 0) pe_int (nomark _)))))) pss_nil)
    (pss_one (ps_ret (pe_call GN hr (by rfl) gN kN bN .nil pass0 (pa_cons (pv 0) pa_nil)))))), ?_⟩
  have ne : ∀ {z : Str}, decide (V.str kd = V.str z) = false → ¬ kd = z := fun h e => of_decide_eq_false h (by rw [e])
  have ye : ∀ {z : Str}, decide (V.str kd = V.str z) = true → kd = z := fun h => V.str.inj (of_decide_eq_true h)
  refine q_when (et_test (ev_op (ev_var rfl) ev_c (rv_eq rfl))) (fun hb H1 e1 => ?_) (fun hb H1 e1 => ?_)
  · refine s_ret (ev_call (ea_cons (ev_var rfl) ea_nil) (spv_D (Dt.ex e1 hd) hs)) fun H2 e2 => ?_
    have g := q H2 (e1.trans e2)
    unfold isItem at g
    rw [if_pos (ye hb)] at g
    exact g
  refine q_when (et_test (ev_op (ev_var rfl) ev_c (rv_eq rfl))) (fun hb2 H2 e2 => ?_) (fun hb2 H2 e2 => ?_)
  · refine s_ret (ev_call (ea_cons (ev_var rfl) ea_nil) (spv_D (Dt.ex (e1.trans e2) hd) hs)) fun H3 e3 => ?_
    have g := q H3 ((e1.trans e2).trans e3)
    unfold isItem at g
    rw [if_neg (ne hb), if_pos (ye hb2)] at g
    exact g
  refine q_when (et_test (ev_op (ev_var rfl) ev_c (rv_eq rfl))) (fun hb3 H3 e3 => ?_) (fun hb3 H3 e3 => ?_)
  · have hd3 := Dt.ex ((e1.trans e2).trans e3) hd
    refine s_ret (v := .bl (isInteger d && atLeast 1 d)) (ev_andV (ev_call (ea_cons (ev_var rfl) ea_nil) (spv_D hd3 hs)) fun hi => ?_) fun H4 e4 => ?_
    · cases hd3 with
      | int i => exact ev_op (ev_var rfl) ev_c rv_I0
      | _ => exact absurd hi (by first | decide | (revert hi; simp [isInteger, isT, isTs, tyT]))
    · have g := q H4 (((e1.trans e2).trans e3).trans e4)
      unfold isItem at g
      rw [if_neg (ne hb), if_neg (ne hb2), if_pos (ye hb3)] at g
      exact g
  · refine s_ret (ev_call (ea_cons (ev_var rfl) ea_nil) (spv_D (Dt.ex ((e1.trans e2).trans e3) hd) hs)) fun H4 e4 => ?_
    have g := q H4 (((e1.trans e2).trans e3).trans e4)
    unfold isItem at g
    rw [if_neg (ne hb), if_neg (ne hb2), if_neg (ne hb3)] at g
    exact g
end
end Cr
namespace Cr
open PySem PySem.Spec PyProof.Rows L2 Evl
section
variable {K : PySem.W.Frag} {H : Hp}
def rNotKd (K : PySem.W.Frag) (d : Addr) : R2 := fun x y H Q => ∃ (z : Str) (r : Option Value), x = .str z ∧ y = .ref d ∧ PySem.W.nsIn K d z = some r ∧ Q (.bl (!r.isSome)) H
theorem op_notKd {X : Cx} {d : Addr} {es : Array DictEntry} {n : Nat} (D : KDict X.K X.w d es n) : OpR X (compareOp .NotIn) (rNotKd X.K d) := op_notIn_kd D
theorem dt_tup {a : Addr} {ds : List PyData} (h : Dt H (.ref a) (.tuple ds)) : ∃ xs, H a = some (.tup xs) ∧ DtAll H xs ds := by
  cases h with
  | tup h t => exact ⟨_, h, t⟩
/-- a pair is taken apart -/
theorem pair_go {K : PySem.W.Frag} {σ : L2.St} {H : Hp} {T : Addr} {x y : V} {i j : Nat} {R : L2.St → Hp → Prop} (h : H T = some (.tup [x, y])) (r : R ((σ.set i (some x)).set j (some y)) H) :
    gTup K 2 (gCons (gName i) (gCons (gName j) gNil)) (.ref T) σ H R := ⟨T, [x, y], rfl, .inl (.inl h), rfl, x, [y], rfl, y, [], rfl, rfl, r⟩
end
section
variable {P : Program} {w : World} {K : PySem.W.Frag} {mg : Str → Option Value} {base : Heap}
theorem ok_isStep {f fT dS : Addr} {fd fdT : FuncData} {k n : Nat} {es : Array DictEntry} (F : Fun K "is_step" "is_step" sIsStep f fd) (B : Blt mg) (gS : mg "SHAPES" = some (.ref dS)) (S : Shapes K w dS es n)
    (GT : FnOk P w K mg base CX0 k fT fdT ["value", "kind"] spItem) (bT : Binds K fdT ["value", "kind"] []) (kT : PySem.W.keepIn K (.ref fT) = true) (gT : mg "is_item" = some (.ref fT)) :
    FnOk P w K mg base CX0 (k + 1) f fd ["value"] (spD isStep) := by
  refine F.ok scIsStep spD_len (fun cdv A outer s H vs Q E hr h => ?_)
  obtain ⟨v, d, rfl, hd, hs, q⟩ := h
  refine ⟨_, pss_cons (ps_if (PW.pt (pw_or (pt_not (pt_val (pe_callB call_isi (by rfl) B.isi bIsi (pa_cons (pv 0) (pa_cons (pe_bltn (v := .ty "tuple") (by rfl) B.tuple bTuple rfl) pa_nil)))))
      (pw_or1 (pt_cmpR op_eq (pe_callB call_len_seq (by rfl) B.len bLen (pa_cons (pv 0) pa_nil)) pe_int (nomark _))))) (pss_one (ps_ret pe_bl)) pss_nil)
    (pss_cons (ps_if (PW.pt (pw_or (pt_not (pt_val (pe_callB call_isi (by rfl) B.isi bIsi (pa_cons (pe_ix ix_tup (pv 0) pe_int (fun _ _ => rfl)) (pa_cons (pe_bltn (v := .ty "str") (by rfl) B.str bStr rfl) pa_nil)))))
      (pw_or1 (pt_cmpR (op_notKd S.kd) (pe_ix ix_tup (pv 0) pe_int (fun _ _ => rfl)) (pe_glob (v := .ref dS) (by rfl) gS rfl) (by rfl))))) (pss_one (ps_ret pe_bl)) pss_nil)
    (pss_cons (ps_set (i := 1) scIsStep.nd rfl (.inl rfl) (pe_ix ix_kdict (pe_glob (v := .ref dS) (by rfl) gS rfl) (pe_ix ix_tup (pv 0) pe_int (fun _ _ => rfl)) (fun _ _ => rfl)))
    (pss_cons (ps_if (pt_cmpR op_ne (pe_callB call_len_seq (by rfl) B.len bLen (pa_cons (pv 0) pa_nil)) (pe_op op_add (pe_callB call_len_seq (by rfl) B.len bLen (pa_cons (pv 1) pa_nil)) pe_int) (nomark _)) (pss_one (ps_ret pe_bl)) pss_nil)
    (pss_one (ps_ret (pe_callB (cr_all rfl) (by rfl) B.all bAll (pa_cons
      (pe_lc (own := [("item", 2), ("kind", 3)]) (g := gTup K 2 (gCons (gName 2) (gCons (gName 3) gNil))) (tt := tYes) rfl scIsStep.nd (RZ.pi_zipA (by rfl) B.zip (pa_cons (pe_slice sl_tup (pv 0) (po_some pe_int) po_none) (pa_cons (pv 1) pa_nil))) (blkOk_by (own := [("item", 2), ("kind", 3)]) (N := ["value", "shape", "item", "kind"]) (sc := defScope sIsStep) (by decide +kernel))
        (fun _ _ _ _ _ => by exact pg_tup rfl (pgs_cons (pg_name (i := 2) scIsStep.nd rfl (Or.inl rfl)) (pgs_cons (pg_name (i := 3) scIsStep.nd rfl (Or.inl rfl)) pgs_nil))) (fun _ _ _ _ _ => pts_nil)
        (fun _ _ _ _ _ => pe_call GT hr (by rfl) gT kT bT .nil pass0 (pa_cons (pv 2) (pa_cons (pv 3) pa_nil)))) pa_nil))))))), ?_⟩
  have isS := rc_isi (K := K) hd memT
  by_cases ht : ∃ ds, d = .tuple ds
  · obtain ⟨ds, rfl⟩ := ht
    have ha : ∃ a, v = .ref a := by cases hd; exact ⟨_, rfl⟩
    obtain ⟨a, rfl⟩ := ha
    obtain ⟨xs, hx, hds⟩ := dt_tup hd
    have len := hds.length
    refine q_when (et_or (et_not (et_B (ev_cb (ea_cons (ev_var rfl) (ea_cons ev_c ea_nil)) isS))) fun _ => et_test (ev_op (ev_cb (ea_cons (ev_var rfl) ea_nil) (rc_lenT (st_of hx))) ev_c (rv_eq rfl))) (fun hb H1 e1 => ?_) (fun hb H1 e1 => ?_)
    · refine s_ret ev_c fun H2 e2 => ?_
      have hb' : (!(isT "tuple" (.tuple ds)) || decide (V.int (xs.length : Int) = V.int 0)) = true := hb
      have e : isT "tuple" (.tuple ds) = true := rfl
      rw [e, Bool.not_true, Bool.false_or] at hb'
      have z := V.int.inj (of_decide_eq_true hb')
      have g := q H2 (e1.trans e2)
      cases ds with
      | nil => exact g
      | cons y r => rw [len, List.length_cons] at z; omega
    have hb' : (!(isT "tuple" (.tuple ds)) || decide (V.int (xs.length : Int) = V.int 0)) = false := hb
    have e : isT "tuple" (.tuple ds) = true := rfl
    rw [e, Bool.not_true, Bool.false_or] at hb'
    have nz := of_decide_eq_false hb'
    cases hds with
    | nil => exact absurd rfl nz
    | @cons v0 xs' d0 ds' h0 hr' =>
    have ix0 : ∀ {H' : Hp}, Ex H H' → ∀ {σ : L2.St}, σ[0]? = some (some (.ref a)) → Ev (tOp (rIxT K) (tVar 0) (tC (.int 0))) σ H' v0 := fun e0 σ hσ => ev_op (ev_var hσ) ev_c (rv_ixT (st_of (e0 _ _ hx)) (atI_nat (j := 0) rfl))
    have h01 := Dt.ex e1 h0
    have isS0 := rc_isi (K := K) h01 memS
    by_cases hstr : ∃ z, d0 = .str z
    · obtain ⟨z, rfl⟩ := hstr
      cases h0
      cases hsh : shapeOf z with
      | none =>
        refine q_when (b := true) (et_is (et_or (et_not (et_B (ev_cb (ea_cons (ix0 e1 rfl) (ea_cons ev_c ea_nil)) isS0))) (b := true) fun _ => et_test (ev_op (ix0 e1 rfl) ev_c (rv_val fun H2 _ Q q => ⟨z, none, rfl, rfl, S.no z hsh, q⟩))) (Bool.or_true _)) (fun _ H2 e2 => s_ret ev_c fun H3 e3 => ?_) (fun z => absurd z (by decide))
        have g := q H3 ((e1.trans e2).trans e3)
        have zz : isStep (.tuple (.str z :: ds')) = false := by
          show (match shapeOf z with | some ks => _ | none => false) = false
          rw [hsh]
        rw [zz] at g
        exact g
      | some ks =>
        obtain ⟨aS, n1, tS⟩ := S.yes z ks hsh
        refine q_when (b := false) (et_is (et_or (et_not (et_B (ev_cb (ea_cons (ix0 e1 rfl) (ea_cons ev_c ea_nil)) isS0))) (b := false) fun _ => et_test (ev_op (ix0 e1 rfl) ev_c (rv_val fun H2 _ Q q => ⟨z, some (.ref aS), rfl, rfl, n1, q⟩))) rfl) (fun z => absurd z (by decide)) (fun _ H2 e2 => ?_)
        have e12 := e1.trans e2
        refine q_asg (v := .ref aS) (ev_op ev_c (ix0 e12 rfl) (rv_val fun H3 _ Q q => ⟨dS, z, .ref aS, rfl, rfl, ⟨es, n, .ref aS, S.kd.at_, S.kd.lit, n1, rfl⟩, q⟩)) fun H3 e3 => ?_
        have e13 := e12.trans e3
        have lk : (ks.map V.str).length = ks.length := List.length_map ..
        have zz : isStep (.tuple (.str z :: ds')) = (decide (ds'.length = ks.length) && stepItems ds' ks) := by
          show (match shapeOf z with | some ks => (decide (ds'.length = ks.length) && stepItems ds' ks) | none => false) = _
          rw [hsh]
        have lx := hr'.length
        refine q_when (b := !decide (ds'.length = ks.length)) (et_is (et_test (ev_op (ev_cb (ea_cons (ev_var rfl) ea_nil) (rc_lenT (st_of (e13 _ _ hx)))) (ev_op (ev_cb (ea_cons (ev_var rfl) ea_nil) (rc_lenT tS.sq)) ev_c rv_I0) (rv_ne rfl))) ?_) (fun hb2 H4 e4 => s_ret ev_c fun H5 e5 => ?_) (fun hb2 H4 e4 => ?_)
        · show (!decide (V.int (((V.str z :: xs').length : Nat) : Int) = V.int (((ks.map V.str).length : Nat) + 1 : Int))) = _
          congr 1
          rw [lk, List.length_cons]
          by_cases hh : ds'.length = ks.length
          · rw [decide_eq_true hh, decide_eq_true]
            rw [lx, hh]; rfl
          · rw [decide_eq_false hh, decide_eq_false]
            intro hz
            have := V.int.inj hz
            omega
        · have g := q H5 ((e13.trans e4).trans e5)
          rw [zz] at g
          rw [Bool.not_eq_true'] at hb2
          rw [hb2, Bool.false_and] at g
          exact g
        · rw [Bool.not_eq_false'] at hb2
          have hh := of_decide_eq_true hb2
          have e14 := e13.trans e4
          have hn : ks.length ≤ 1000 := by
            rw [sm, Bool.and_eq_true] at hs
            have := of_decide_eq_true hs.1
            rw [List.length_cons] at this
            omega
          have hsd : smAll ds' = true := by
            rw [sm, Bool.and_eq_true, smAll, Bool.and_eq_true] at hs
            exact hs.2.2
          have lc := el_lcW (wi := RZ.iZipA K (tCons (tSl (rSlT K) (tVar 0) (tPart (tC (.int 1))) tNoPart) (tCons (tVar 1) tNil))) (g := gTup K 2 (gCons (gName 2) (gCons (gName 3) gNil))) (tt := tYes) (te := tCall spItem [] E0 (tCons (tVar 2) (tCons (tVar 3) tNil))) (vs := [2, 3])
            (σ := [some (.ref a), some (.ref aS), none, none]) (H := H4) (n := ks.length) (Y := YPair (fun i => xs'[i]?) fun i => (ks.map V.str)[i]?) (fun _ => true) (fun i => .bl (isItem (ds'.getD i .none) (ks.getD i ""))) (by omega)
            (fun H5 e5 R r => by
              refine eu_tail (ev_var rfl) (st_of ((e14.trans e5) _ _ hx)) H5 (Ex.refl H5) _ fun p H6 hp e6 h6 => ?_
              refine ⟨.ref aS, rfl, p, aS, xs', ks.map V.str, rfl, .inr ⟨st_of h6, tS.sq, r H6 _ _ (walk_zipT (xs := xs') (ys := ks.map V.str) (by rw [lk]; omega)) (fun H7 H8 e7 z => ⟨ex_t e7 z.1, ex_t e7 z.2⟩) e6 ⟨st_of h6, tS.sq⟩⟩⟩)
            (fun i y H5 H6 e5 hi hy => by
              obtain ⟨T, x1, y1, rfl, hT, rfl, hx1, hy1⟩ := hy
              obtain ⟨d1, hd1, dd1⟩ := hr'.get hx1
              have hk1 : ks[i]? = some (ks.getD i "") := by
                rw [List.getElem?_eq_getElem hi]
                simp [List.getD, List.getElem?_eq_getElem hi]
              have ey : y1 = V.str (ks.getD i "") := by
                have hy2 : (ks.map V.str)[i]? = some y1 := hy1
                rw [List.getElem?_map, hk1] at hy2
                exact (Option.some.inj hy2).symm
              have ed : ds'.getD i .none = d1 := by rw [List.getD, hd1]; rfl
              subst ey
              refine ⟨Ex.new hT, [some (.ref a), some (.ref aS), some x1, some (.str (ks.getD i ""))], rfl, fun R r => pair_go upd_same r, fun H7 _ Q q => q H7 (Ex.refl H7), fun _ => ?_⟩
              rw [ed]
              refine ev_call (ea_cons (ev_var rfl) (ea_cons (ev_var rfl) ea_nil)) fun H7 e7 Q q E => ⟨x1, d1, ks.getD i "", rfl, Dt.ex (((e14.trans e5).trans (Ex.new hT)).trans e7) dd1, smAll_get hsd hd1, q⟩)
          have eg : given ks.length (fun _ => true) (fun i => V.bl (isItem (ds'.getD i .none) (ks.getD i ""))) = ((List.range ks.length).map fun i => isItem (ds'.getD i .none) (ks.getD i "")).map V.bl := by
            rw [given_all, List.map_map]; rfl
          rw [eg] at lc
          refine s_ret (ev_all lc) fun H5 e5 => ?_
          have g := q H5 (e14.trans e5)
          rw [zz, decide_eq_true hh, Bool.true_and] at g
          exact g
    · have ns : isT "str" d0 = false := by
        cases d0 with
        | str z => exact absurd ⟨z, rfl⟩ hstr
        | _ => rfl
      refine q_when (b := true) (et_is (et_or (et_not (et_B (ev_cb (ea_cons (ix0 e1 rfl) (ea_cons ev_c ea_nil)) isS0))) (b := true) fun z => absurd z (by rw [ns]; decide)) (Bool.or_true _)) (fun _ H2 e2 => s_ret ev_c fun H3 e3 => ?_) (fun z => absurd z (by decide))
      have g := q H3 ((e1.trans e2).trans e3)
      cases d0 with
      | str z => exact absurd ⟨z, rfl⟩ hstr
      | _ => exact g
  · have nt : isT "tuple" d = false := by
      cases d with
      | tuple ds => exact absurd ⟨ds, rfl⟩ ht
      | _ => rfl
    refine q_when (b := true) (et_is (et_or (et_not (et_B (ev_cb (ea_cons (ev_var rfl) (ea_cons ev_c ea_nil)) isS))) (b := true) fun z => absurd z (by rw [nt]; decide)) (Bool.or_true _)) (fun _ H1 e1 => s_ret ev_c fun H2 e2 => ?_) (fun z => absurd z (by decide))
    have g := q H2 (e1.trans e2)
    cases d with
    | tuple ds => exact absurd ⟨ds, rfl⟩ ht
    | _ => exact g
end
end Cr
namespace Cr
open PySem PySem.Spec PyProof.Rows L2 Evl
theorem int_text {i : Int} (h : i.natAbs.log2 < 1000) : (Str.ofString (toString i)).length ≤ 1001 := by
  have e := int_text_length_le (k := 1000) (by decide) h
  rw [PySem.ofString_length]
  omega
theorem len_add (a b : Str) : (a ++ b).length = a.length + b.length := by
  show (a.cps ++ b.cps).size = _
  rw [Array.size_append]
  rfl
/-! ### flat values -/
def flD : V → PyData
  | .bl b => .bool b
  | .int i => .int i
  | .str x => .str x
  | _ => .none
theorem dt_flat {H : Hp} {v : V} (h : flatV v = true) : Dt H v (flD v) := by
  cases v with
  | non => exact .non
  | bl b => exact .bl b
  | int i => exact .int i
  | str x => exact .str x
  | _ => exact absurd h (fun z => nomatch z)
theorem dtAll_flat {H : Hp} : ∀ {xs : List V}, xs.all flatV = true → DtAll H xs (xs.map flD)
  | [], _ => .nil
  | x :: r, h => by
    rw [List.all_cons, Bool.and_eq_true] at h
    exact .cons (dt_flat h.1) (dtAll_flat h.2)
def leafOk : V → Bool
  | .non => true
  | .bl _ => true
  | .int i => decide (i.natAbs ≤ 10 ^ 30)
  | .str x => decide (x.length ≤ 9) && x.cps.toList.all fun c => decide (c < 128)
  | _ => false
theorem leaf_name {x : Str} (h : isNameS x = true) : leafOk (.str x) = true := by
  unfold isNameS at h
  simp only [Bool.and_eq_true, decide_eq_true_eq] at h
  show (decide (x.length ≤ 9) && x.cps.toList.all fun c => decide (c < 128)) = true
  rw [decide_eq_true (show x.length ≤ 9 by omega), Bool.true_and]
  refine List.all_eq_true.mpr fun c hc => ?_
  have z := List.all_eq_true.mp h.2 c hc
  unfold isLow at z
  simp only [Bool.and_eq_true, decide_eq_true_eq] at z
  exact decide_eq_true (by omega)
theorem var_cases {x : Str} (h : isVar (.str x) = true) : x = "a" ∨ x = "b" ∨ x = "c" ∨ x = "d" := by
  have z : (vars4.any fun y => y == x) = true := h
  simp only [vars4, List.any_cons, List.any_nil, Bool.or_false, Bool.or_eq_true, beq_iff_eq] at z
  rcases z with z | z | z | z
  · exact .inl z.symm
  · exact .inr (.inl z.symm)
  · exact .inr (.inr (.inl z.symm))
  · exact .inr (.inr (.inr z.symm))
theorem leaf_var {x : Str} (h : isVar (.str x) = true) : leafOk (.str x) = true := by
  rcases var_cases h with rfl | rfl | rfl | rfl <;> decide +kernel
/-! ### the steps -/
theorem isStep_eq {z : Str} {ks : List Str} {ds : List PyData} (h : shapeOf z = some ks) : isStep (.tuple (.str z :: ds)) = (decide (ds.length = ks.length) && stepItems ds ks) := by
  show (match shapeOf z with | some ks => (decide (ds.length = ks.length) && stepItems ds ks) | none => false) = _
  rw [h]
theorem it_var (d : PyData) : isItem d "variable" = isVar d := if_pos rfl
theorem it_int (d : PyData) : isItem d "integer" = isInteger d := by
  unfold isItem
  rw [if_neg (by decide +kernel), if_pos rfl]
theorem it_len (d : PyData) : isItem d "length" = (isInteger d && atLeast 1 d) := by
  unfold isItem
  rw [if_neg (by decide +kernel), if_neg (by decide +kernel), if_pos rfl]
theorem it_name (d : PyData) : isItem d "name" = isName d := by
  unfold isItem
  rw [if_neg (by decide +kernel), if_neg (by decide +kernel), if_neg (by decide +kernel)]
theorem it_mod (d : PyData) : isItem d "module" = isName d := by
  unfold isItem
  rw [if_neg (by decide +kernel), if_neg (by decide +kernel), if_neg (by decide +kernel)]
theorem items1 (d : PyData) (k : Str) : stepItems [d] [k] = isItem d k := by
  show (isItem d k && true) = _
  rw [Bool.and_true]
theorem items2 (d d' : PyData) (k k' : Str) : stepItems [d, d'] [k, k'] = (isItem d k && isItem d' k') := by
  show (isItem d k && (isItem d' k' && true)) = _
  rw [Bool.and_true]
theorem items3 (d d' d'' : PyData) (k k' k'' : Str) : stepItems [d, d', d''] [k, k', k''] = (isItem d k && (isItem d' k' && isItem d'' k'')) := by
  show (isItem d k && (isItem d' k' && (isItem d'' k'' && true))) = _
  rw [Bool.and_true]
theorem sh_set : shapeOf "set" = some (["variable", "integer"] : List Str) := by decide +kernel
theorem sh_add : shapeOf "add" = some (["variable", "variable"] : List Str) := by decide +kernel
theorem sh_skip : shapeOf "skip" = some (["variable", "length"] : List Str) := by decide +kernel
theorem sh_export : shapeOf "export" = some (["name", "variable"] : List Str) := by decide +kernel
theorem sh_read : shapeOf "read" = some (["variable", "module", "name"] : List Str) := by decide +kernel
theorem sh_need : shapeOf "need" = some (["module"] : List Str) := by decide +kernel
theorem sh_try : shapeOf "try" = some (["module", "variable"] : List Str) := by decide +kernel
theorem sh_fail : shapeOf "fail" = some ([] : List Str) := by decide +kernel
structure StepOk (xs : List V) : Prop where
  leaf : xs.all leafOk = true
  one : 1 ≤ xs.length
  four : xs.length ≤ 4
  step : isStep (.tuple (xs.map flD)) = true
theorem kinds_leaf : ∀ z ∈ (["set", "add", "skip", "export", "read", "need", "try", "fail"] : List Str), leafOk (.str z) = true := by decide +kernel
theorem st_set {x : Str} {n : Int} (hx : isVar (.str x) = true) (hn : n.natAbs ≤ 10 ^ 30) : StepOk [.str "set", .str x, .int n] where
  leaf := by
    rw [List.all_cons, List.all_cons, List.all_cons, kinds_leaf "set" (by decide +kernel), leaf_var hx]
    show (true && (true && (decide (n.natAbs ≤ 10 ^ 30) && true))) = true
    rw [decide_eq_true hn]
    rfl
  one := by show 1 ≤ 3; decide
  four := by show 3 ≤ 4; decide
  step := by
    rw [show ([V.str "set", V.str x, V.int n].map flD) = [.str "set", .str x, .int n] from rfl, isStep_eq sh_set, items2, it_var, it_int, hx]
    rfl
theorem st_add {x y : Str} (hx : isVar (.str x) = true) (hy : isVar (.str y) = true) : StepOk [.str "add", .str x, .str y] where
  leaf := by
    rw [List.all_cons, List.all_cons, List.all_cons, kinds_leaf "add" (by decide +kernel), leaf_var hx, leaf_var hy]
    rfl
  one := by show 1 ≤ 3; decide
  four := by show 3 ≤ 4; decide
  step := by
    rw [show ([V.str "add", V.str x, V.str y].map flD) = [.str "add", .str x, .str y] from rfl, isStep_eq sh_add, items2, it_var, it_var, hx, hy]
    rfl
theorem st_skip {x : Str} {n : Int} (hx : isVar (.str x) = true) (h1 : 1 ≤ n) (hn : n.natAbs ≤ 10 ^ 30) : StepOk [.str "skip", .str x, .int n] where
  leaf := by
    rw [List.all_cons, List.all_cons, List.all_cons, kinds_leaf "skip" (by decide +kernel), leaf_var hx]
    show (true && (true && (decide (n.natAbs ≤ 10 ^ 30) && true))) = true
    rw [decide_eq_true hn]
    rfl
  one := by show 1 ≤ 3; decide
  four := by show 3 ≤ 4; decide
  step := by
    rw [show ([V.str "skip", V.str x, V.int n].map flD) = [.str "skip", .str x, .int n] from rfl, isStep_eq sh_skip, items2, it_var, it_len, hx]
    show (decide (2 = 2) && (true && (isInteger (.int n) && decide (1 ≤ n)))) = true
    rw [decide_eq_true h1]
    rfl
theorem st_need {m : Str} (hm : isNameS m = true) : StepOk [.str "need", .str m] where
  leaf := by
    rw [List.all_cons, List.all_cons, kinds_leaf "need" (by decide +kernel), leaf_name hm]
    rfl
  one := by show 1 ≤ 2; decide
  four := by show 2 ≤ 4; decide
  step := by
    rw [show ([V.str "need", V.str m].map flD) = [.str "need", .str m] from rfl, isStep_eq sh_need, items1, it_mod]
    exact hm
theorem st_export {m x : Str} (hm : isNameS m = true) (hx : isVar (.str x) = true) : StepOk [.str "export", .str m, .str x] where
  leaf := by
    rw [List.all_cons, List.all_cons, List.all_cons, kinds_leaf "export" (by decide +kernel), leaf_name hm, leaf_var hx]
    rfl
  one := by show 1 ≤ 3; decide
  four := by show 3 ≤ 4; decide
  step := by
    rw [show ([V.str "export", V.str m, V.str x].map flD) = [.str "export", .str m, .str x] from rfl, isStep_eq sh_export, items2, it_name, it_var, hx, show isName (.str m) = true from hm]
    rfl
theorem st_try {m x : Str} (hm : isNameS m = true) (hx : isVar (.str x) = true) : StepOk [.str "try", .str m, .str x] where
  leaf := by
    rw [List.all_cons, List.all_cons, List.all_cons, kinds_leaf "try" (by decide +kernel), leaf_name hm, leaf_var hx]
    rfl
  one := by show 1 ≤ 3; decide
  four := by show 3 ≤ 4; decide
  step := by
    rw [show ([V.str "try", V.str m, V.str x].map flD) = [.str "try", .str m, .str x] from rfl, isStep_eq sh_try, items2, it_mod, it_var, hx, show isName (.str m) = true from hm]
    rfl
theorem st_read {x m n : Str} (hx : isVar (.str x) = true) (hm : isNameS m = true) (hn : isNameS n = true) : StepOk [.str "read", .str x, .str m, .str n] where
  leaf := by
    rw [List.all_cons, List.all_cons, List.all_cons, List.all_cons, kinds_leaf "read" (by decide +kernel), leaf_name hm, leaf_name hn, leaf_var hx]
    rfl
  one := by show 1 ≤ 4; decide
  four := by show 4 ≤ 4; decide
  step := by
    rw [show ([V.str "read", V.str x, V.str m, V.str n].map flD) = [.str "read", .str x, .str m, .str n] from rfl, isStep_eq sh_read, items3, it_var, it_mod, it_name, hx, show isName (.str m) = true from hm, show isName (.str n) = true from hn]
    rfl
theorem st_fail : StepOk [.str "fail"] where
  leaf := by rw [List.all_cons, kinds_leaf "fail" (by decide +kernel)]; rfl
  one := by show 1 ≤ 1; decide
  four := by show 1 ≤ 4; decide
  step := by
    rw [show ([V.str "fail"].map flD) = [.str "fail"] from rfl, isStep_eq sh_fail]
    rfl
/-- one step over drawn names -/
def skipLen : PyData → Option Int
  | .tuple (.str z :: _ :: .int i :: _) => if z = "skip" then some i else none
  | _ => none
def skipOk (n : Int) (d : PyData) : Bool :=
  match skipLen d with
  | some i => decide (i ≤ n)
  | none => true
def isBefore (d : PyData) (n : Int) : Bool := isStep d && skipOk n d
def isExport : PyData → Bool
  | .tuple (.str z :: _) => z == "export"
  | _ => false
/-- what a step is -/
theorem step_form {d : PyData} (h : isStep d = true) : ∃ z ds, d = .tuple (.str z :: ds) := by
  cases d with
  | tuple ds =>
    cases ds with
    | nil => exact nomatch h
    | cons d0 ds =>
      cases d0 with
      | str z => exact ⟨z, ds, rfl⟩
      | _ => exact nomatch h
  | _ => exact nomatch h
theorem skip_form {ds : List PyData} (h : isStep (.tuple (.str "skip" :: ds)) = true) : ∃ x i, ds = [x, .int i] := by
  rw [isStep_eq sh_skip] at h
  obtain ⟨h1, h2⟩ := Bool.and_eq_true_iff.mp h
  have hl : ds.length = 2 := of_decide_eq_true h1
  match ds, hl with
  | [x, y], _ =>
    rw [items2, it_len] at h2
    obtain ⟨_, h3⟩ := Bool.and_eq_true_iff.mp h2
    obtain ⟨h4, _⟩ := Bool.and_eq_true_iff.mp h3
    cases y with
    | int i => exact ⟨x, i, rfl⟩
    | _ => exact nomatch h4
/-- the spot of a module in a step -/
def spotOf (z : Str) : Option Nat := if z = "need" then some 1 else if z = "try" then some 1 else if z = "read" then some 2 else none
def strOf : PyData → Option Str
  | .str x => some x
  | _ => none
/-- the module of a step -/
def modO : PyData → Option Str
  | .tuple (.str z :: ds) => (spotOf z).bind fun i => strOf ((PyData.str z :: ds).getD i .none)
  | _ => none
/-- a step with a spot has a name there -/
theorem spot_name {z : Str} {ds : List PyData} {i : Nat} (h : isStep (.tuple (.str z :: ds)) = true) (hs : spotOf z = some i) : ∃ m, (PyData.str z :: ds)[i]? = some (.str m) ∧ isNameS m = true := by
  have nm : ∀ {d : PyData}, isName d = true → ∃ m, d = .str m ∧ isNameS m = true := fun {d} hd => by
    cases d with
    | str m => exact ⟨m, rfl, hd⟩
    | _ => exact nomatch hd
  unfold spotOf at hs
  by_cases h1 : z = "need"
  · subst h1
    rw [if_pos rfl] at hs
    cases hs
    rw [isStep_eq sh_need] at h
    obtain ⟨a1, a2⟩ := Bool.and_eq_true_iff.mp h
    match ds, of_decide_eq_true a1 with
    | [x], _ =>
      rw [items1, it_mod] at a2
      obtain ⟨m, rfl, hm⟩ := nm a2
      exact ⟨m, rfl, hm⟩
  rw [if_neg h1] at hs
  by_cases h2 : z = "try"
  · subst h2
    rw [if_pos rfl] at hs
    cases hs
    rw [isStep_eq sh_try] at h
    obtain ⟨a1, a2⟩ := Bool.and_eq_true_iff.mp h
    match ds, of_decide_eq_true a1 with
    | [x, y], _ =>
      rw [items2, it_mod] at a2
      obtain ⟨m, rfl, hm⟩ := nm (Bool.and_eq_true_iff.mp a2).1
      exact ⟨m, rfl, hm⟩
  rw [if_neg h2] at hs
  by_cases h3 : z = "read"
  · subst h3
    rw [if_pos rfl] at hs
    cases hs
    rw [isStep_eq sh_read] at h
    obtain ⟨a1, a2⟩ := Bool.and_eq_true_iff.mp h
    match ds, of_decide_eq_true a1 with
    | [x, y, u], _ =>
      rw [items3, it_mod] at a2
      obtain ⟨m, rfl, hm⟩ := nm (Bool.and_eq_true_iff.mp (Bool.and_eq_true_iff.mp a2).2).1
      exact ⟨m, rfl, hm⟩
  rw [if_neg h3] at hs
  cases hs
theorem modO_some {z : Str} {ds : List PyData} {i : Nat} {m : Str} (hs : spotOf z = some i) (hm : (PyData.str z :: ds)[i]? = some (.str m)) : modO (.tuple (.str z :: ds)) = some m := by
  show (spotOf z).bind _ = some m
  rw [hs, Option.bind_some, List.getD_eq_getElem?_getD, hm]
  rfl
theorem modO_none {z : Str} {ds : List PyData} (hs : spotOf z = none) : modO (.tuple (.str z :: ds)) = none := by
  show (spotOf z).bind _ = none
  rw [hs]
  rfl
abbrev sSM : Stmt := topS 20
abbrev nSM : List Str := ["step", "item", "kind"]
theorem scSM : FnScope nSM ["step"] (defScope sSM) := ⟨rfl, rfl, rfl, by decide +kernel, rfl, by decide +kernel, by decide +kernel⟩
def spSM : Sp := fun vs H Q _ => ∃ v d, vs = [v] ∧ Dt H v d ∧ sm d = true ∧ isStep d = true ∧ ∀ T H', H T = none → Ex H H' → H' T = some (.lst ((modO d).toList.map V.str)) → Q (.ref T) H'
/-- where the modules stand -/
def isM (ks : List Str) (i : Nat) : Bool := decide (V.str (ks.getD i "") = V.str "module")
theorem mods_given {z : Str} {ks : List Str} {ds : List PyData} {xs : List V} {H : Hp} (hsh : shapeOf z = some ks) (h : isStep (.tuple (.str z :: ds)) = true) (hd : DtAll H xs ds) :
    given ks.length (isM ks) (fun i => xs.getD i .non) = (modO (.tuple (.str z :: ds))).toList.map V.str := by
  have lx := hd.length
  have hl : ds.length = ks.length := by
    rw [isStep_eq hsh] at h
    exact of_decide_eq_true (Bool.and_eq_true_iff.mp h).1
  have none_ : spotOf z = none → (List.range ks.length).filter (isM ks) = [] → given ks.length (isM ks) (fun i => xs.getD i .non) = (modO (.tuple (.str z :: ds))).toList.map V.str := fun h1 h2 => by
    unfold given
    rw [h2, modO_none h1]
    rfl
  have some_ : ∀ j, spotOf z = some (j + 1) → (List.range ks.length).filter (isM ks) = [j] → given ks.length (isM ks) (fun i => xs.getD i .non) = (modO (.tuple (.str z :: ds))).toList.map V.str := fun j h1 h2 => by
    obtain ⟨m, hm, _⟩ := spot_name h h1
    unfold given
    rw [h2, modO_some h1 hm]
    have hm' : ds[j]? = some (.str m) := hm
    have hj : j < ds.length := (List.getElem?_eq_some_iff.mp hm').1
    have hx : xs[j]? = some (xs.getD j .non) := by
      rw [List.getD_eq_getElem?_getD, List.getElem?_eq_getElem (by omega)]
      rfl
    obtain ⟨d', h3, h4⟩ := DtAll.get hd hx
    rw [hm'] at h3
    cases h3
    show [xs.getD j .non] = [V.str m]
    generalize xs.getD j .non = u at h4 ⊢
    cases h4
    rfl
  have two : ∀ {z' : Str} {ks' : List Str}, shapeOf z' = some ks' → z = z' → ks = ks' := fun h1 h2 => by
    rw [h2, h1] at hsh
    exact (Option.some.inj hsh).symm
  have cases8 : z = "set" ∨ z = "add" ∨ z = "skip" ∨ z = "export" ∨ z = "read" ∨ z = "need" ∨ z = "try" ∨ z = "fail" := by
    unfold shapeOf at hsh
    repeat' split at hsh
    all_goals first
      | (simp_all; done)
      | cases hsh
  rcases cases8 with e | e | e | e | e | e | e | e
  · have k := two sh_set e
    subst e k
    exact none_ (by decide +kernel) (by decide +kernel)
  · have k := two sh_add e
    subst e k
    exact none_ (by decide +kernel) (by decide +kernel)
  · have k := two sh_skip e
    subst e k
    exact none_ (by decide +kernel) (by decide +kernel)
  · have k := two sh_export e
    subst e k
    exact none_ (by decide +kernel) (by decide +kernel)
  · have k := two sh_read e
    subst e k
    exact some_ 1 (by decide +kernel) (by decide +kernel)
  · have k := two sh_need e
    subst e k
    exact some_ 0 (by decide +kernel) (by decide +kernel)
  · have k := two sh_try e
    subst e k
    exact some_ 0 (by decide +kernel) (by decide +kernel)
  · have k := two sh_fail e
    subst e k
    exact none_ (by decide +kernel) (by decide +kernel)
section
variable {P : Program} {w : World} {K : PySem.W.Frag} {mg : Str → Option Value} {base : Heap}
theorem ok_sm {f dS : Addr} {fd : FuncData} {k n : Nat} {es : Array DictEntry} (F : Fun K "step_modules" "step_modules" sSM f fd) (B : Blt mg) (gS : mg "SHAPES" = some (.ref dS)) (S : Shapes K w dS es n) : FnOk P w K mg base CX0 (k + 1) f fd ["step"] spSM := by
  refine F.ok scSM (fun vs H Q E h => by obtain ⟨_, _, rfl, _⟩ := h; rfl) (fun cdv A outer s H vs Q E hr h => ?_)
  obtain ⟨v, d, rfl, hd, hs, hst, q⟩ := h
  refine ⟨_, pss_one (ps_ret (pe_lc (own := [("item", 1), ("kind", 2)]) (g := gTup K 2 (gCons (gName 1) (gCons (gName 2) gNil))) (tt := tTest (tOp rEq (tVar 2) (tC (.str "module")))) rfl scSM.nd
      (RZ.pi_zipA (by rfl) B.zip (pa_cons (pe_slice sl_tup (pv 0) (po_some pe_int) po_none) (pa_cons (pe_ix ix_kdict (pe_glob (v := .ref dS) (by rfl) gS rfl) (pe_ix ix_tup (pv 0) pe_int (fun _ _ => rfl)) (fun _ _ => rfl)) pa_nil)))
      (blkOk_by (own := [("item", 1), ("kind", 2)]) (N := nSM) (sc := defScope sSM) (by decide +kernel))
      (fun _ _ _ _ _ => by exact pg_tup rfl (pgs_cons (pg_name (i := 1) scSM.nd rfl (Or.inl rfl)) (pgs_cons (pg_name (i := 2) scSM.nd rfl (Or.inl rfl)) pgs_nil))) (fun _ _ _ _ _ => by exact pts_one (pt_cmpR op_eq (pv 2) pe_str (nomark _))) (fun _ _ _ _ _ => pv 1))), ?_⟩
  obtain ⟨z, ds, rfl⟩ := step_form hst
  have ha : ∃ a, v = .ref a := by cases hd; exact ⟨_, rfl⟩
  obtain ⟨a, rfl⟩ := ha
  obtain ⟨ys, hy0, hzs⟩ := dt_tup hd
  have hf : ∃ xs, ys = .str z :: xs ∧ DtAll H xs ds := by
    cases hzs with
    | cons h0 hr0 => cases h0; exact ⟨_, rfl, hr0⟩
  obtain ⟨xs, rfl, hds⟩ := hf
  obtain ⟨ks, hsh⟩ : ∃ ks, shapeOf z = some ks := by
    cases hsh : shapeOf z with
    | some ks => exact ⟨ks, rfl⟩
    | none =>
      have zz : isStep (.tuple (.str z :: ds)) = false := by
        show (match shapeOf z with | some ks => _ | none => false) = false
        rw [hsh]
      rw [zz] at hst
      cases hst
  obtain ⟨aS, n1, tS⟩ := S.yes z ks hsh
  have lx := hds.length
  have hl : ds.length = ks.length := by
    rw [isStep_eq hsh] at hst
    exact of_decide_eq_true (Bool.and_eq_true_iff.mp hst).1
  have l10 : ks.length ≤ 1000 := by
    rw [sm, Bool.and_eq_true] at hs
    have := of_decide_eq_true hs.1
    rw [List.length_cons] at this
    omega
  refine s_retL (el_lcW (n := ks.length) (Y := YPair (fun i => xs[i]?) fun i => (ks.map V.str)[i]?) (isM ks) (fun i => xs.getD i .non) (by omega) (fun H1 e1 R r => ?_) (fun i y H1 H2 e1 hi hy => ?_)) fun T H1 zT e1 hT => q T H1 zT e1 (by rw [hT, mods_given hsh hst hds])
  · refine eu_tail (ev_var rfl) (st_of (e1 _ _ hy0)) H1 (Ex.refl H1) _ fun p H2 hp e2 h2 => ?_
    refine ev_op (ev_var rfl) ev_c (rv_ixT (K := K) (st_of ((e1.trans e2) _ _ hy0)) (atI_nat (j := 0) rfl)) H2 (Ex.refl H2) _ fun H3 e3 => ?_
    refine ⟨dS, z, .ref aS, rfl, rfl, ⟨es, n, .ref aS, S.kd.at_, S.kd.lit, n1, rfl⟩, ?_⟩
    refine ⟨p, aS, xs, ks.map V.str, rfl, .inr ⟨st_of (e3 _ _ h2), tS.sq, r H3 _ _ (walk_zipT (xs := xs) (ys := ks.map V.str) (by rw [List.length_map]; omega)) (fun H7 H8 e7 z => ⟨ex_t e7 z.1, ex_t e7 z.2⟩) (e2.trans e3) ⟨st_of (e3 _ _ h2), tS.sq⟩⟩⟩
  · obtain ⟨T, x1, y1, rfl, hT, rfl, hx1, hy1⟩ := hy
    have hk1 : ks[i]? = some (ks.getD i "") := by
      rw [List.getElem?_eq_getElem hi]
      simp [List.getD, List.getElem?_eq_getElem hi]
    have ey : y1 = V.str (ks.getD i "") := by
      have hy2 : (ks.map V.str)[i]? = some y1 := hy1
      rw [List.getElem?_map, hk1] at hy2
      exact (Option.some.inj hy2).symm
    subst ey
    have ex1 : xs.getD i .non = x1 := by
      have hx2 : xs[i]? = some x1 := hx1
      rw [List.getD_eq_getElem?_getD, hx2]
      rfl
    refine ⟨Ex.new hT, [some (.ref a), some x1, some (.str (ks.getD i ""))], rfl, fun R r => pair_go upd_same r, et_test (ev_op (ev_var rfl) ev_c (rv_eq rfl)), fun _ => ?_⟩
    rw [ex1]
    exact ev_var rfl
end
end Cr
namespace Cr
open PySem PySem.Spec PyProof.Rows L2 Evl
/-- a def of the program as it is called -/
structure HasO (P : Program) (w : World) (K : PySem.W.Frag) (mg : Str → Option Value) (base : Heap) (k : Nat) (x : Str) (ps : List Str) (sp : Sp) : Prop where
  ex : ∃ f fd, FnOk P w K mg base CX0 k f fd ps sp ∧ Binds K fd ps [] ∧ PySem.W.keepIn K (.ref f) = true ∧ mg x = some (.ref f)
/-- .. that may raise -/
structure HasE (P : Program) (w : World) (K : PySem.W.Frag) (mg : Str → Option Value) (base : Heap) (k : Nat) (x : Str) (ps : List Str) (sp : Sp) : Prop where
  ex : ∃ f fd, FnOk P w K mg base (L2.CX P w) k f fd ps sp ∧ Binds K fd ps [] ∧ PySem.W.keepIn K (.ref f) = true ∧ mg x = some (.ref f)
theorem fnUp {P : Program} {w : World} {K : PySem.W.Frag} {mg : Str → Option Value} {base : Heap} {CX : CXT} {j k : Nat} {f : Addr} {fd : FuncData} {ps : List Str} {sp : Sp} (F : FnOk P w K mg base CX j f fd ps sp) (le : j ≤ k) : FnOk P w K mg base CX k f fd ps sp :=
  ⟨F.len, fun A outer s H args us vs Q E hr e hb r h => F.run A outer s H args us vs Q E (hr.mono le) e hb r h⟩
theorem HasO.up {P : Program} {w : World} {K : PySem.W.Frag} {mg : Str → Option Value} {base : Heap} {x : Str} {ps : List Str} {sp : Sp} {j k : Nat} (h : HasO P w K mg base j x ps sp) (le : j ≤ k) : HasO P w K mg base k x ps sp := by
  obtain ⟨f, fd, G, b, kp, g⟩ := h.ex
  exact ⟨⟨f, fd, fnUp G le, b, kp, g⟩⟩
theorem HasE.up {P : Program} {w : World} {K : PySem.W.Frag} {mg : Str → Option Value} {base : Heap} {x : Str} {ps : List Str} {sp : Sp} {j k : Nat} (h : HasE P w K mg base j x ps sp) (le : j ≤ k) : HasE P w K mg base k x ps sp := by
  obtain ⟨f, fd, G, b, kp, g⟩ := h.ex
  exact ⟨⟨f, fd, fnUp G le, b, kp, g⟩⟩
/-! ### errors with one number -/
/-- where an own error's class stands, and its __init__ -/
structure ErrAt (P : Program) (K : PySem.W.Frag) (mg : Str → Option Value) (C fI : Addr) (fd : FuncData) (b : XB) (cn qual fld : Str) (st : Stmt) : Prop where
  ex : ∃ (cda cc : Addr) (oc : Value) (od an : Option Addr) (kV doc pm ct : Value) (osl : Array (Option Value)),
    fd = PySem.W.ksFn "__init__" qual (defArgs st) (defBody st) (defScope st) .none kV doc pm an (.ref cda) ct cc ∧
    K.lookup fI = some ⟨oc, od, .func fd, osl⟩ ∧ PySem.W.codeIn K (.ref cda) qual = true ∧ SupG P K C cda cc b
  init : PySem.W.findIn K (.ref C) "__init__" = some (some (.ref fI))
  fn : PySem.W.typeIn K (.ref fI) = some (.type "function")
  no : PySem.W.findIn K (.ref C) fld = some none
  at_ : mg cn = some (.ref C)
/-- an error with the number in its field, as it is made -/
structure MkNum (P : Program) (w : World) (K : PySem.W.Frag) (mg : Str → Option Value) (base : Heap) (C : Addr) (cn p fld : Str) : Prop where
  ex : ∃ (fI : Addr) (fd : FuncData) (b : XB), OexG K C b ∧ FnOk P w K mg base CX0 1 fI fd ["self", p] (spInit C fld) ∧ Binds K fd ["self", p] [] ∧
    PySem.W.findIn K (.ref C) "__init__" = some (some (.ref fI)) ∧ PySem.W.typeIn K (.ref fI) = some (.type "function") ∧ mg cn = some (.ref C)
abbrev sInitP : Stmt := inClass (topS 3) 0
theorem scInitP : SupScope ["self", "position"] ["self", "position"] (defScope sInitP) := ⟨rfl, rfl, rfl, by decide +kernel, rfl, by decide +kernel, by decide +kernel, by decide +kernel, by decide +kernel, by decide +kernel⟩
section
variable {P : Program} {w : World} {K : PySem.W.Frag} {mg : Str → Option Value} {base : Heap}
theorem ok_initP {C fI : Addr} {fd : FuncData} {b : XB} {k : Nat} (T : ErrAt P K mg C fI fd b "InvalidProgram" "InvalidProgram.__init__" "position" sInitP) (B : Blt mg) : FnOk P w K mg base CX0 (k + 1) fI fd ["self", "position"] (spInit C "position") := by
  obtain ⟨cda, cc, oc, od, an, kV, doc, pm, ct, osl, rfl, lk, hcd, S⟩ := T.ex
  refine okSupG lk hcd scInitP S B.sup rfl rfl (by decide) (fun vs H Q E h => by obtain ⟨_, _, rfl, _⟩ := h; rfl) (fun A outer s H vs Q E h => ?_)
  obtain ⟨a, i, rfl, hi, ha, q⟩ := h
  refine ⟨a, _, _, rfl, ha, pa_cons (pe_joined (.cons pe_str (.cons (pe_fmt (pv 1)) .nil))) pa_nil, pss_one (ps_ostG (pv 0) (pv 1)), ?_⟩
  have l0 : (Str.empty ++ ("not a program, position " : Str)).length ≤ 100 := by decide +kernel
  have l1 := int_text hi
  refine ⟨_, rfl, Nat.le_trans l0 (by rw [sizeLine_eq]; decide), .int i, rfl, .inr ⟨i, rfl, by omega, _, rfl, by rw [len_add, sizeLine_eq]; omega, ?_⟩⟩
  refine ⟨by show 1 ≤ 1000; decide, ha, .int i, rfl, .ref a, rfl, a, C, b, rfl, S.oex, T.no, .inl ⟨ha, fun dx hdx ne => q dx hdx ne⟩⟩
theorem mkP {C fI : Addr} {fd : FuncData} {b : XB} (T : ErrAt P K mg C fI fd b "InvalidProgram" "InvalidProgram.__init__" "position" sInitP) (B : Blt mg) : MkNum P w K mg base C "InvalidProgram" "position" "position" := by
  have G : FnOk P w K mg base CX0 1 fI fd ["self", "position"] (spInit C "position") := ok_initP T B
  obtain ⟨cda, cc, oc, od, an, kV, doc, pm, ct, osl, rfl, lk, hcd, S⟩ := T.ex
  exact ⟨⟨fI, _, b, S.oex, G, .all fun us hl => match us, hl with | [_, _], _ => rfl, T.init, T.fn, T.at_⟩⟩
end
end Cr
namespace Cr
open PySem PySem.Spec PyProof.Rows L2 Evl
abbrev sBefore : Stmt := topS 21
abbrev sSteps : Stmt := topS 22
abbrev nBefore : List Str := ["value", "steps_after", "modules", "module"]
abbrev nSteps : List Str := ["value", "is_main", "modules", "position", "step"]
theorem scBefore : FnScope nBefore ["value", "steps_after", "modules"] (defScope sBefore) := ⟨rfl, rfl, rfl, by decide +kernel, rfl, by decide +kernel, by decide +kernel⟩
theorem scSteps : FnScope nSteps ["value", "is_main", "modules"] (defScope sSteps) := ⟨rfl, rfl, rfl, by decide +kernel, rfl, by decide +kernel, by decide +kernel⟩
/-- the modules that are allowed: all, or those of a list -/
def MdAt (H : Hp) (m : V) : Option (List V) → Prop
  | none => m = .non
  | some xs => ∃ a, m = .ref a ∧ H a = some (.lst xs) ∧ xs.all flatV = true
theorem MdAt.ex {H H' : Hp} {m : V} {ms : Option (List V)} (e : Ex H H') (h : MdAt H m ms) : MdAt H' m ms := by
  cases ms with
  | none => exact h
  | some xs =>
    obtain ⟨a, h1, h2, h3⟩ := h
    exact ⟨a, h1, e _ _ h2, h3⟩
def modsOk (ms : Option (List V)) (d : PyData) : Bool :=
  match ms with
  | none => true
  | some xs => (modO d).toList.all fun x => inV (.str x) xs
def fitsIn (ms : Option (List V)) (d : PyData) (n : Int) : Bool := isBefore d n && modsOk ms d
def spBefore : Sp := fun vs H Q _ => ∃ v d n m ms, vs = [v, .int n, m] ∧ Dt H v d ∧ sm d = true ∧ MdAt H m ms ∧ ∀ H', Ex H H' → Q (.bl (fitsIn ms d n)) H'
theorem spv_before {H : Hp} {v m : V} {d : PyData} {n : Int} {ms : Option (List V)} (h : Dt H v d) (s : sm d = true) (hm : MdAt H m ms) : SpV spBefore [v, .int n, m] H (.bl (fitsIn ms d n)) := fun H1 e Q q E => ⟨v, d, n, m, ms, rfl, Dt.ex e h, s, hm.ex e, q⟩
def tooFar (n : Int) (d : PyData) : Bool := !skipOk n d
theorem skipLen_ne {z : Str} {ds : List PyData} (hz : z ≠ "skip") : skipLen (.tuple (.str z :: ds)) = none := by
  unfold skipLen
  split
  · rename_i z' _ i _ e2
    cases e2
    rw [if_neg hz]
  · rfl
section
variable {P : Program} {w : World} {K : PySem.W.Frag} {mg : Str → Option Value} {base : Heap}
theorem ok_before {f : Addr} {fd : FuncData} {k : Nat} (F : Fun K "is_step_before" "is_step_before" sBefore f fd) (B : Blt mg) (h1 : HasO P w K mg base k "is_step" ["value"] (spD isStep)) (h2 : HasO P w K mg base k "step_modules" ["step"] spSM) :
    FnOk P w K mg base CX0 (k + 1) f fd ["value", "steps_after", "modules"] spBefore := by
  obtain ⟨f1, d1, G1, b1, k1, g1⟩ := h1.ex
  obtain ⟨f2, d2, G2, b2, k2, g2⟩ := h2.ex
  refine F.ok scBefore (fun vs H Q E h => by obtain ⟨_, _, _, _, _, rfl, _⟩ := h; rfl) (fun cdv A outer s H vs Q E hr h => ?_)
  obtain ⟨v, d, n, m, ms, rfl, hd, hs, hm, q⟩ := h
  refine ⟨_, pss_cons (ps_if (PW.pt (pw_or (pt_not (pt_val (pe_call G1 hr (by rfl) g1 k1 b1 .nil pass0 (pa_cons (pv 0) pa_nil))))
      (pw_or1 (PW.pt (pw_and (pt_cmpR op_eq (pe_ix ix_tup (pv 0) pe_int (fun _ _ => rfl)) pe_str (nomark _)) (pw_and1 (pt_cmpR op_gt (pe_ix ix_tup (pv 0) pe_int (fun _ _ => rfl)) (pv 1) (nomark _)))))))) (pss_one (ps_ret pe_bl)) pss_nil)
    (pss_one (ps_ret (pe_or (pe_cmpR op_isN (pv 2) pe_non (nomark _)) (pe_one (pe_callB (cr_all rfl) (by rfl) B.all bAll (pa_cons
      (pe_lc (own := [("module", 3)]) (g := gName 3) (tt := tYes) (te := tOp (rIn K false) (tVar 3) (tVar 2)) rfl scBefore.nd (pi_list (pe_call G2 hr (by rfl) g2 k2 b2 .nil pass0 (pa_cons (pv 0) pa_nil))) (blkOk_by (own := [("module", 3)]) (N := nBefore) (sc := defScope sBefore) (by decide +kernel))
        (fun _ _ _ _ _ => pg_name (i := 3) scBefore.nd rfl (Or.inl rfl)) (fun _ _ _ _ _ => pts_nil) (fun _ _ _ _ _ => by exact pe_cmpR op_in_seq (pv 3) (pv 2) (by rfl))) pa_nil)))))), ?_⟩
  refine q_when (b := !isStep d || tooFar n d) (et_or (et_not (et_B (ev_call (ea_cons (ev_var rfl) ea_nil) (spv_D hd hs)))) fun hb => ?_) (fun hb H1 e1 => ?_) (fun hb H1 e1 => ?_)
  · have st : isStep d = true := by rw [Bool.not_eq_false'] at hb; exact hb
    obtain ⟨z, ds, rfl⟩ := step_form st
    have ha : ∃ a, v = .ref a := by cases hd; exact ⟨_, rfl⟩
    obtain ⟨a, rfl⟩ := ha
    obtain ⟨xs, hx, hds⟩ := dt_tup hd
    by_cases hz : z = "skip"
    · subst hz
      obtain ⟨x, i, rfl⟩ := skip_form st
      cases hds with
      | cons h0 hr1 =>
        cases hr1 with
        | cons h1 hr2 =>
          cases hr2 with
          | cons h2 hr3 =>
            cases h0; cases h2; cases hr3
            refine et_is (et_and (b := decide (i > n)) (et_test (ev_op (ev_op (ev_var rfl) ev_c (rv_ixT (st_of hx) (atI_nat (j := 0) rfl))) ev_c (rv_eq rfl))) fun _ => et_test (ev_op (ev_op (ev_var rfl) ev_c (rv_ixT (st_of hx) (atI_nat (j := 2) rfl))) (ev_var rfl) rv_I0)) ?_
            rw [decide_eq_true rfl, Bool.true_and]
            show _ = !decide (i ≤ n)
            by_cases hi : i ≤ n
            · rw [decide_eq_true hi, decide_eq_false (by omega)]; rfl
            · rw [decide_eq_false hi, decide_eq_true (by omega)]; rfl
    · cases hds with
      | cons h0 hr1 =>
        cases h0
        have ne : V.str z ≠ V.str "skip" := fun e => hz (V.str.inj e)
        refine et_is (et_and (b := true) (et_test (ev_op (ev_op (ev_var rfl) ev_c (rv_ixT (st_of hx) (atI_nat (j := 0) rfl))) ev_c (rv_eq rfl))) fun z2 => absurd (of_decide_eq_true z2) ne) ?_
        rw [decide_eq_false ne]
        unfold tooFar skipOk
        rw [skipLen_ne hz]
        rfl
  · refine s_ret ev_c fun H2 e2 => ?_
    have g := q H2 (e1.trans e2)
    have zz : fitsIn ms d n = false := by
      unfold fitsIn isBefore
      rcases Bool.or_eq_true_iff.mp hb with z | z
      · rw [Bool.not_eq_true'] at z
        rw [z]; rfl
      · unfold tooFar at z
        rw [Bool.not_eq_true'] at z
        rw [z, Bool.and_false]; rfl
    rw [zz] at g
    exact g
  · rw [Bool.or_eq_false_iff] at hb
    have st : isStep d = true := by have z := hb.1; rw [Bool.not_eq_false'] at z; exact z
    have sk : skipOk n d = true := by have z := hb.2; unfold tooFar at z; rw [Bool.not_eq_false'] at z; exact z
    have bf : isBefore d n = true := by unfold isBefore; rw [st, sk]; rfl
    refine s_ret (v := .bl (fitsIn ms d n)) ?_ fun H2 e2 => q H2 (e1.trans e2)
    have ff : fitsIn ms d n = modsOk ms d := by unfold fitsIn; rw [bf]; rfl
    rw [ff]
    cases ms with
    | none =>
      have hm' : m = .non := hm
      subst hm'
      exact ev_is (ev_orV (b := true) (ev_op (ev_var rfl) ev_c (rv_val fun H2 _ Q q => ⟨rfl, q⟩)) fun z => nomatch z) rfl
    | some xs =>
      obtain ⟨a, rfl, hxs, hf⟩ := hm
      have hx1 := e1 _ _ hxs
      have lst : EvL (tCall spSM [] E0 (tCons (tVar 0) tNil)) (L2.start nBefore [v, .int n, .ref a]) H1 ((modO d).toList.map V.str) := fun H2 e2 Q' q' => ⟨v, rfl, v, d, rfl, Dt.ex (e1.trans e2) hd, hs, st, q'⟩
      have l1 : (modO d).toList.length ≤ 1 := by cases modO d <;> simp
      have lc := el_lcNL (K := K) (j := 3) (vs := [3]) (t := tYes) (te := tOp (rIn K false) (tVar 3) (tVar 2)) (fun _ => true) (fun i => .bl (inV (.str ((modO d).toList.getD i "")) xs)) lst (by rw [List.length_map]; omega) (fun _ => rfl) (fun i x H2 e2 hx => fun H3 _ Q q => q H3 (Ex.refl H3))
        (fun i x H2 e2 hx _ => by
          rw [List.getElem?_map] at hx
          have hi : i < (modO d).toList.length := by
            cases hh : (modO d).toList[i]? with
            | none => rw [hh] at hx; cases hx
            | some y => exact (List.getElem?_eq_some_iff.mp hh).1
          rw [List.getElem?_eq_getElem hi] at hx
          have ex : x = .str ((modO d).toList.getD i "") := by
            rw [List.getD_eq_getElem?_getD, List.getElem?_eq_getElem hi]
            exact (Option.some.inj hx).symm
          subst ex
          exact ev_op (ev_var rfl) (ev_var rfl) (rv_isL (sq_of (e2 _ _ hx1)) rfl hf))
      rw [List.length_map] at lc
      have eg : given (modO d).toList.length (fun _ => true) (fun i => V.bl (inV (.str ((modO d).toList.getD i "")) xs)) = ((List.range (modO d).toList.length).map fun i => inV (.str ((modO d).toList.getD i "")) xs).map V.bl := by
        rw [given_all, List.map_map]; rfl
      rw [eg] at lc
      refine ev_is (ev_orV (ev_op (ev_var rfl) ev_c (rv_val fun H2 _ Q q => ⟨rfl, q⟩)) fun _ => ev_all lc) ?_
      rw [decide_eq_false (fun z => nomatch z), Bool.false_or]
      congr 1
      exact all_range (modO d).toList "" fun x => inV (.str x) xs
end
end Cr
namespace Cr
open PySem PySem.Spec PyProof.Rows L2 Evl
def wrongAt (ms : Option (List V)) (main : Bool) (ds : List PyData) (i : Nat) : Bool := !fitsIn ms (ds.getD i .none) ((ds.length : Int) - i - 1) || (main && isExport (ds.getD i .none))
def firstBad (ms : Option (List V)) (main : Bool) (ds : List PyData) : Option Nat := (List.range ds.length).find? (wrongAt ms main ds)
def dueOf (ms : Option (List V)) (main : Bool) : PyData → Option Int
  | .list ds => if ds.length > 30 then some (-1) else (firstBad ms main ds).map fun i => (i : Int)
  | _ => some (-1)
theorem first_at {ms : Option (List V)} {main : Bool} {ds : List PyData} {i : Nat} (hi : i < ds.length) (hw : wrongAt ms main ds i = true) (hb : ∀ j, j < i → wrongAt ms main ds j = false) : firstBad ms main ds = some i := by
  unfold firstBad
  have e : List.range ds.length = List.range i ++ (List.range (ds.length - i)).map (i + ·) := by
    rw [← List.range_add]
    congr 1
    omega
  rw [e, List.find?_append]
  have n1 : (List.range i).find? (wrongAt ms main ds) = none := by
    rw [List.find?_eq_none]
    intro j hj
    rw [hb j (List.mem_range.mp hj)]
    decide
  rw [n1, Option.none_or]
  obtain ⟨m, hm⟩ : ∃ m, ds.length - i = m + 1 := ⟨ds.length - i - 1, by omega⟩
  rw [hm, List.range_succ_eq_map, List.map_cons, List.find?_cons]
  rw [Nat.add_zero, hw]
theorem first_none {ms : Option (List V)} {main : Bool} {ds : List PyData} (hb : ∀ j, j < ds.length → wrongAt ms main ds j = false) : firstBad ms main ds = none := by
  unfold firstBad
  rw [List.find?_eq_none]
  intro j hj
  rw [hb j (List.mem_range.mp hj)]
  decide
/-- check_steps -/
def spSteps (C : Addr) : Sp := fun vs H Q E => ∃ v d main m ms, vs = [v, .bl main, m] ∧ Dt H v d ∧ sm d = true ∧ MdAt H m ms ∧ (dueOf ms main d = none → ∀ H', Ex H H' → Q .non H') ∧
  ∀ i, dueOf ms main d = some i → ∀ dx H', H dx = none → Ex H H' → H' dx = some (.xd [("position", .int i)]) → E (.ref C) (some dx) H'
def spCheck (C : Addr) : Sp := fun vs H Q E => ∃ v d main, vs = [v, .bl main] ∧ Dt H v d ∧ sm d = true ∧ (dueOf none main d = none → ∀ H', Ex H H' → Q .non H') ∧
  ∀ i, dueOf none main d = some i → ∀ dx H', H dx = none → Ex H H' → H' dx = some (.xd [("position", .int i)]) → E (.ref C) (some dx) H'
theorem sm_all {ds : List PyData} (h : sm (.list ds) = true) : smAll ds = true := by
  rw [sm] at h
  exact (Bool.and_eq_true_iff.mp h).2
def tooLong : PyData → Bool
  | .list ds => decide (ds.length > 30)
  | _ => true
theorem due_long {ms : Option (List V)} {main : Bool} {d : PyData} (h : tooLong d = true) : dueOf ms main d = some (-1) := by
  cases d with
  | list ds => exact if_pos (of_decide_eq_true h)
  | _ => rfl
theorem list_form {H : Hp} {v : V} {d : PyData} (hd : Dt H v d) (h : isT "list" d = true) : ∃ a xs ds, v = .ref a ∧ d = .list ds ∧ H a = some (.lst xs) ∧ DtAll H xs ds := by
  cases hd with
  | lst h1 h2 => exact ⟨_, _, _, rfl, rfl, h1, h2⟩
  | _ => exact absurd h (by first | decide | (simp [isT, isTs, tyT]))
section
variable {P : Program} {w : World} {K : PySem.W.Frag} {mg : Str → Option Value} {base : Heap}
theorem ok_steps {f C : Addr} {fd : FuncData} {k : Nat} (F : Fun K "check_steps" "check_steps" sSteps f fd) (B : Blt mg) (T : MkNum P w K mg base C "InvalidProgram" "position" "position") (hk2 : 2 ≤ k) {tM : Tok} (gM : mg "MOST_STEPS" = some (.int 30 tM))
    (h1 : HasO P w K mg base k "is_step_before" ["value", "steps_after", "modules"] spBefore) : FnOk P w K mg base (L2.CX P w) (k + 1) f fd ["value", "is_main", "modules"] (spSteps C) := by
  obtain ⟨f1, d1, G1, b1, k1, g1⟩ := h1.ex
  obtain ⟨fI, fdI, bb, Ox, FI, bI, iI, tI, gC⟩ := T.ex
  refine F.okX scSteps (fun vs H Q E h => by obtain ⟨_, _, _, _, _, rfl, _⟩ := h; rfl) (fun cdv A outer s H vs Q E hr h => ?_)
  obtain ⟨v, d, main, m, ms, rfl, hd, hs, hm, q, qe⟩ := h
  refine ⟨_, pss_cons (ps_if (PW.pt (pw_or (pt_not (pt_val (pe_callB call_isi (by rfl) B.isi bIsi (pa_cons (pv 0) (pa_cons (pe_bltn (v := .ty "list") (by rfl) B.list bList rfl) pa_nil)))))
      (pw_or1 (pt_cmpR op_gt (pe_callB call_len_seq (by rfl) B.len bLen (pa_cons (pv 0) pa_nil)) (pe_glob (v := .int 30) (by rfl) gM ⟨_, rfl⟩) (nomark _)))))
      (pss_one (ps_raise rfl (takes_of rfl rfl rfl rfl) (pmkG Ox iI tI FI (hr.mono hk2) bI .nil pass0 (by rfl) gC (pa_cons (pe_un un_neg pe_int) pa_nil)))) pss_nil)
    (pss_one (ps_for (passes_of rfl) rfl (pi_enum (by rfl) B.enum (pa_cons (pv 0) pa_nil)) (pg_tup rfl (pgs_cons (pg_name (i := 3) scSteps.nd rfl (.inl rfl)) (pgs_cons (pg_name (i := 4) scSteps.nd rfl (.inl rfl)) pgs_nil)))
      (pss_cons (ps_if (pt_not (pt_val (pe_call G1 hr (by rfl) g1 k1 b1 .nil pass0 (pa_cons (pv 4) (pa_cons (pe_op op_sub (pe_op op_sub (pe_callB call_len_seq (by rfl) B.len bLen (pa_cons (pv 0) pa_nil)) (pv 3)) pe_int) (pa_cons (pv 2) pa_nil))))))
        (pss_one (ps_raise rfl (takes_of rfl rfl rfl rfl) (pmkG Ox iI tI FI (hr.mono hk2) bI .nil pass0 (by rfl) gC (pa_cons (pv 3) pa_nil)))) pss_nil)
      (pss_one (ps_if (PW.pt (pw_and (pt_cmpR op_isBl (pv 1) pe_bl (nomark _)) (pw_and1 (pt_cmpR op_eq (pe_ix ix_tup (pv 4) pe_int (fun _ _ => rfl)) pe_str (nomark _)))))
        (pss_one (ps_raise rfl (takes_of rfl rfl rfl rfl) (pmkG Ox iI tI FI (hr.mono hk2) bI .nil pass0 (by rfl) gC (pa_cons (pv 3) pa_nil)))) pss_nil))))), ?_⟩
  -- raised
  have up : ∀ {i : Int} {H1 : Hp}, dueOf ms main d = some i → Ex H H1 → ∀ dx, H1 dx = none → E (.ref C) (some dx) (upd H1 dx (.xd [("position", .int i)])) := fun hi e dx hz => qe _ hi dx _ (fresh_back e hz) (e.trans (Ex.new hz)) upd_same
  have isL := rc_isi (K := K) (T := "list") hd (by decide)
  refine q_when (b := !isT "list" d || tooLong d) (et_or (et_not (et_B (ev_cb (ea_cons (ev_var rfl) (ea_cons ev_c ea_nil)) isL))) fun hb => ?_) (fun hb H1 e1 => ?_) (fun hb H1 e1 => ?_)
  · have hL : isT "list" d = true := by rw [Bool.not_eq_false'] at hb; exact hb
    obtain ⟨a, xs, ds, rfl, rfl, hx, hds⟩ := list_form hd hL
    refine et_is (et_test (ev_op (ev_cb (ea_cons (ev_var rfl) ea_nil) (rc_lenL (sq_of hx))) ev_c rv_I0)) ?_
    show decide ((xs.length : Int) > 30) = decide (ds.length > 30)
    rw [hds.length]
    exact decide_eq_decide.mpr (by omega)
  · have hL : tooLong d = true := by
      cases d with
      | list ds =>
        have hb' : (!isT "list" (.list ds) || tooLong (.list ds)) = true := hb
        rw [show isT "list" (.list ds) = true from rfl, Bool.not_true, Bool.false_or] at hb'
        exact hb'
      | _ => rfl
    exact mk_num ⟨1, rfl, -1, rfl, by decide +kernel, fun dx hz => up (due_long hL) e1 dx hz⟩ (fun k ⟨i, e, r⟩ => ⟨i, e, k _ _ r⟩)
  · rw [Bool.or_eq_false_iff] at hb
    have hL : isT "list" d = true := by have := hb.1; rw [Bool.not_eq_false'] at this; exact this
    obtain ⟨a, xs, ds, rfl, rfl, hx, hds⟩ := list_form hd hL
    have h30 : ¬ ds.length > 30 := of_decide_eq_false hb.2
    have lx := hds.length
    have due : dueOf ms main (.list ds) = (firstBad ms main ds).map fun i => (i : Int) := if_neg h30
    refine ⟨.ref a, rfl, a, xs, rfl, sq_of (e1 _ _ hx), for_it (walk_enum (K := K) (a := a) (xs := xs)) (fun i σ H' => ∃ y2 y3, σ = [some (.ref a), some (.bl main), some m, y2, y3] ∧ Ex H1 H' ∧ ∀ j, j < i → wrongAt ms main ds j = false)
      ⟨none, none, rfl, Ex.refl _, fun j hj => absurd hj (Nat.not_lt_zero _)⟩ (fun i σ H' _ hP => ?_) (fun i x σ H' H2 hi hP hY => ?_) (fun σ H' hP => ?_)⟩
    · obtain ⟨_, _, _, e, _⟩ := hP
      exact sq_of (e _ _ (e1 _ _ hx))
    · obtain ⟨y2, y3, rfl, e2, hw⟩ := hP
      obtain ⟨T', x0, y, rfl, zT, rfl, hx0, hy⟩ := hY
      have hx0' : V.int (i : Nat) = x0 := Option.some.inj hx0
      subst hx0'
      obtain ⟨dy, hdy, hDy⟩ := DtAll.get hds hy
      have sy : sm dy = true := smAll_get (sm_all hs) hdy
      have e3 := Ex.new (o := .tup [.int (i : Nat), y]) zT
      have eH := (e1.trans e2).trans e3
      refine pair_go upd_same ?_
      have gd0 : ds.getD i .none = dy := by rw [List.getD_eq_getElem?_getD, hdy]; rfl
      have hi' : i < ds.length := by omega
      have sml : ((i : Nat) : Int).natAbs.log2 < 1000 := by
        rw [Int.natAbs_natCast]
        exact Nat.lt_of_le_of_lt (Nat.log2_le_self i) (by omega)
      refine q_when (b := !fitsIn ms dy ((ds.length : Int) - i - 1)) (et_not (et_B (ev_call (ea_cons (ev_var rfl) (ea_cons (ev_is (ev_op (ev_op (ev_cb (ea_cons (ev_var rfl) ea_nil) (rc_lenL (sq_of (eH _ _ hx)))) (ev_var rfl) rv_I0) ev_c rv_I0) (by rw [lx])) (ea_cons (ev_var rfl) ea_nil))) (spv_before (Dt.ex eH hDy) sy (hm.ex eH))))) (fun hb2 H3 e4 => ?_) (fun hb2 H3 e4 => ?_)
      · have wr : wrongAt ms main ds i = true := by
          unfold wrongAt
          rw [gd0, hb2, Bool.true_or]
        exact mk_num ⟨.int (i : Nat), rfl, (i : Nat), rfl, sml, fun dx hz => up (by rw [due, first_at hi' wr hw]; rfl) (eH.trans e4) dx hz⟩ (fun k ⟨i, e, r⟩ => ⟨i, e, k _ _ r⟩)
      · have bf : fitsIn ms dy ((ds.length : Int) - i - 1) = true := by rw [Bool.not_eq_false'] at hb2; exact hb2
        have st : isStep dy = true := (Bool.and_eq_true_iff.mp (Bool.and_eq_true_iff.mp bf).1).1
        obtain ⟨z, zs, rfl⟩ := step_form st
        have hay : ∃ b, y = .ref b := by cases hDy; exact ⟨_, rfl⟩
        obtain ⟨b, rfl⟩ := hay
        obtain ⟨ys, hys, hzs⟩ := dt_tup hDy
        cases hzs with
        | cons h0 hr0 =>
          cases h0
          have eH4 := eH.trans e4
          refine s_when (b := main && (z == "export")) (et_and (et_is (et_test (ev_op (ev_var rfl) ev_c (rv_val fun H6 _ Q q => ⟨_, _, rfl, rfl, q⟩))) (by cases main <;> rfl)) fun _ => et_is (et_test (ev_op (ev_op (ev_var rfl) ev_c (rv_ixT (st_of (eH4 _ _ hys)) (atI_nat (j := 0) rfl))) ev_c (rv_eq rfl))) ?_) (fun hb3 H4 e5 => ?_) (fun hb3 H4 e5 => ?_)
          · by_cases hz : z = "export"
            · subst hz; rw [decide_eq_true rfl]; decide
            · rw [decide_eq_false (fun e => hz (V.str.inj e)), beq_eq_false_iff_ne.mpr hz]
          · have wr : wrongAt ms main ds i = true := by
              unfold wrongAt
              rw [gd0]
              show (_ || (main && (z == "export"))) = true
              rw [hb3, Bool.or_true]
            exact mk_num ⟨.int (i : Nat), rfl, (i : Nat), rfl, sml, fun dx hz => up (by rw [due, first_at hi' wr hw]; rfl) (eH4.trans e5) dx hz⟩ (fun k ⟨i, e, r⟩ => ⟨i, e, k _ _ r⟩)
          · refine ⟨_, _, rfl, ((e2.trans e3).trans e4).trans e5, fun j hj => ?_⟩
            by_cases hji : j = i
            · subst hji
              unfold wrongAt
              rw [gd0, bf]
              show (_ || (main && (z == "export"))) = false
              rw [hb3]; rfl
            · exact hw j (by omega)
    · obtain ⟨_, _, rfl, e2, hw⟩ := hP
      exact q (by rw [due, first_none fun j hj => hw j (by omega)]; rfl) H' (e1.trans e2)
end
end Cr
/-! steps: their words and sizes (pure) -/
namespace Cr
open PySem PySem.Spec PyProof.Rows L2 Evl
def wordy : PyData → Bool
  | .str x => decide (x.length ≤ 8) && !decide (32 ∈ x.cps.toList)
  | .int _ => true
  | _ => false
theorem low_free {x : Str} (h : isNameS x = true) : x.length ≤ 8 ∧ 32 ∉ x.cps.toList := by
  unfold isNameS at h
  simp only [Bool.and_eq_true, decide_eq_true_eq] at h
  refine ⟨by omega, fun m => ?_⟩
  have z := List.all_eq_true.mp h.2 32 m
  exact absurd z (by decide)
theorem wordy_name {x : Str} (h : isNameS x = true) : wordy (.str x) = true := by
  obtain ⟨a, b⟩ := low_free h
  show (decide (x.length ≤ 8) && !decide (32 ∈ x.cps.toList)) = true
  rw [decide_eq_true a, decide_eq_false b]
  rfl
theorem wordy_item {d : PyData} {k : Str} (h : isItem d k = true) : wordy d = true := by
  unfold isItem at h
  split at h
  · cases d with
    | str x =>
      rcases var_cases h with e | e | e | e
      all_goals
        subst e
        decide +kernel
    | _ => exact nomatch h
  · split at h
    · cases d with
      | int i => rfl
      | _ => exact nomatch h
    · split at h
      · cases d with
        | int i => rfl
        | _ =>
        rw [Bool.and_eq_true] at h
        exact nomatch h.2
      · cases d with
        | str x => exact wordy_name h
        | _ => exact nomatch h
theorem shape_words : ∀ z ks, shapeOf z = some ks → wordy (.str z) = true ∧ ks.length ≤ 3 := by
  intro z ks h
  unfold shapeOf at h
  split at h
  · rename_i e; subst e; cases h; decide +kernel
  split at h
  · rename_i e; subst e; cases h; decide +kernel
  split at h
  · rename_i e; subst e; cases h; decide +kernel
  split at h
  · rename_i e; subst e; cases h; decide +kernel
  split at h
  · rename_i e; subst e; cases h; decide +kernel
  split at h
  · rename_i e; subst e; cases h; decide +kernel
  split at h
  · rename_i e; subst e; cases h; decide +kernel
  split at h
  · rename_i e; subst e; cases h; decide +kernel
  · cases h
theorem items_all {ds : List PyData} {ks : List Str} (l : ds.length = ks.length) (h : stepItems ds ks = true) : ∀ i, i < ks.length → isItem (ds.getD i .none) (ks.getD i "") = true := by
  intro i hi
  unfold stepItems at h
  rw [List.all_map, List.all_eq_true] at h
  exact h i (List.mem_range.mpr hi)
/-- the items of a step -/
theorem step_wordy {ds : List PyData} (h : isStep (.tuple ds) = true) : ds.length ≤ 4 ∧ ∀ d ∈ ds, wordy d = true := by
  obtain ⟨z, r, e⟩ := step_form h
  cases e
  cases hs : shapeOf z with
  | none =>
    have z' : isStep (.tuple (.str z :: r)) = false := by
      show (match shapeOf z with | some ks => _ | none => false) = false
      rw [hs]
    rw [z'] at h
    cases h
  | some ks =>
    rw [isStep_eq hs, Bool.and_eq_true, decide_eq_true_eq] at h
    obtain ⟨hl, hi⟩ := h
    obtain ⟨w1, w2⟩ := shape_words z ks hs
    refine ⟨by rw [List.length_cons]; omega, fun d hd => ?_⟩
    rcases List.mem_cons.mp hd with rfl | hd
    · exact w1
    · obtain ⟨i, hi2, rfl⟩ := List.getElem_of_mem hd
      have z2 := items_all hl hi i (by omega)
      rw [List.getD_eq_getElem?_getD, List.getElem?_eq_getElem hi2] at z2
      exact wordy_item z2
theorem smAll_of : ∀ {l : List PyData}, (∀ d ∈ l, sm d = true) → smAll l = true
  | [], _ => rfl
  | d :: l, h => by rw [smAll, h d List.mem_cons_self, smAll_of fun e he => h e (List.mem_cons_of_mem _ he)]; rfl
theorem step_sm {ds : List PyData} (h : isStep (.tuple ds) = true) : sm (.tuple ds) = true := by
  obtain ⟨l4, w⟩ := step_wordy h
  rw [sm, Bool.and_eq_true]
  refine ⟨decide_eq_true (by omega), smAll_of fun d hd => ?_⟩
  have y := w d hd
  cases d with
  | int i => rfl
  | str x =>
    have z : (decide (x.length ≤ 8) && !decide (32 ∈ x.cps.toList)) = true := y
    rw [Bool.and_eq_true, decide_eq_true_eq] at z
    exact decide_eq_true (by omega)
  | _ => exact nomatch y
theorem item_nm {x : Str} {k : Str} (h : isItem (.str x) k = true) : isNameS x = true := by
  unfold isItem at h
  split at h
  · rcases var_cases h with e | e | e | e
    all_goals
      subst e
      decide +kernel
  · split at h
    · exact nomatch h
    · split at h
      · rw [Bool.and_eq_true] at h
        exact nomatch h.2
      · exact h
theorem shape_nm : ∀ z ks, shapeOf z = some ks → isNameS z = true := by
  intro z ks h
  unfold shapeOf at h
  split at h
  · rename_i e; subst e; decide +kernel
  split at h
  · rename_i e; subst e; decide +kernel
  split at h
  · rename_i e; subst e; decide +kernel
  split at h
  · rename_i e; subst e; decide +kernel
  split at h
  · rename_i e; subst e; decide +kernel
  split at h
  · rename_i e; subst e; decide +kernel
  split at h
  · rename_i e; subst e; decide +kernel
  split at h
  · rename_i e; subst e; decide +kernel
  · cases h
theorem step_parts {ds : List PyData} (h : isStep (.tuple ds) = true) : ∃ z r ks, ds = .str z :: r ∧ shapeOf z = some ks ∧ r.length = ks.length ∧ stepItems r ks = true := by
  obtain ⟨z, r, e⟩ := step_form h
  cases e
  cases hs : shapeOf z with
  | none =>
    have z' : isStep (.tuple (.str z :: r)) = false := by
      show (match shapeOf z with | some ks => _ | none => false) = false
      rw [hs]
    rw [z'] at h
    cases h
  | some ks =>
    rw [isStep_eq hs, Bool.and_eq_true, decide_eq_true_eq] at h
    exact ⟨z, r, ks, rfl, hs, h.1, h.2⟩
theorem step_str {ds : List PyData} (h : isStep (.tuple ds) = true) {x : Str} (hd : PyData.str x ∈ ds) : isNameS x = true := by
  obtain ⟨z, r, ks, rfl, hs, hl, hit⟩ := step_parts h
  rcases List.mem_cons.mp hd with e | hd
  · cases e
    exact shape_nm _ ks hs
  · obtain ⟨i, hi2, ex⟩ := List.getElem_of_mem hd
    have z2 := items_all hl hit i (by omega)
    rw [List.getD_eq_getElem?_getD, List.getElem?_eq_getElem hi2] at z2
    have z3 : isItem (r[i]) (ks.getD i "") = true := z2
    rw [ex] at z3
    exact item_nm z3
theorem pss_dead' {X : Cx} {ss : List Stmt} : PSs X ss (fun _ _ _ => False) := ⟨fun _ _ _ _ _ _ h => h.elim⟩
end Cr
/-! data whose text is short: by bulk and depth -/
namespace Cr
open PySem PySem.Spec PyProof.Rows L2 Evl
/-- leaves of at most 80 signs, so much bulk, so deep -/
structure Sz (b m : Nat) (d : PyData) : Prop where
  sh : d.showable = true
  lf : d.leavesShort 80 = true
  bk : d.bulk ≤ b
  dp : d.depth ≤ m
structure SzA (b m : Nat) (ds : List PyData) : Prop where
  sh : PyData.showableAll ds = true
  lf : PyData.leavesShortAll 80 ds = true
  bk : PyData.bulkAll ds ≤ b
  dp : PyData.depthAll ds ≤ m
structure SzK (b m : Nat) (es : List (PyData × PyData)) : Prop where
  sh : PyData.showableKv es = true
  lf : PyData.leavesShortKv 80 es = true
  bk : PyData.bulkKv es ≤ b
  dp : PyData.depthKv es ≤ m
theorem Sz.fits {b m : Nat} {d : PyData} (h : Sz b m d) (hb : b ≤ 100000) (hm : m ≤ 50) : Fits d := by
  refine ⟨h.sh, Nat.le_trans h.dp hm, ?_⟩
  have z := PyData.shown_le_bulk 80 (by decide) d h.lf
  have y := h.bk
  rw [sizeLine_eq]
  omega
theorem Sz.mono {b b' m m' : Nat} {d : PyData} (h : Sz b m d) (hb : b ≤ b') (hm : m ≤ m') : Sz b' m' d := ⟨h.sh, h.lf, Nat.le_trans h.bk hb, Nat.le_trans h.dp hm⟩
theorem sz_none {b m : Nat} : Sz b m .none := ⟨rfl, rfl, Nat.zero_le _, Nat.zero_le _⟩
theorem sz_bool {b m : Nat} {x : Bool} : Sz b m (.bool x) := ⟨rfl, rfl, Nat.zero_le _, Nat.zero_le _⟩
theorem sz_int {b m : Nat} {i : Int} (h : i.natAbs ≤ 10 ^ 70) : Sz b m (.int i) := by
  refine ⟨?_, ?_, Nat.zero_le _, Nat.zero_le _⟩
  · rw [PyData.showable]
    refine decide_eq_true ?_
    by_cases hz : i.natAbs = 0
    · rw [hz]; decide
    · have e : (10 : Nat) ^ 70 < 2 ^ 300 := by decide
      have := (Nat.log2_lt (k := 300) hz).mpr (by omega)
      omega
  · rw [PyData.leavesShort]
    refine decide_eq_true ?_
    have e := int_text_length_le10 (k := 71) (a := i) (by decide) (Nat.lt_of_le_of_lt h (by decide))
    show (Str.ofString (toString i)).length ≤ 80
    rw [PySem.ofString_length]
    omega
theorem sz_str {b m : Nat} {x : Str} (hb : x.length ≤ b) (hx : ∀ c ∈ x.cps.toList, c < 1000) : Sz b m (.str x) := by
  refine ⟨rfl, ?_, ?_, Nat.zero_le _⟩
  · rw [PyData.leavesShort]
    exact List.all_eq_true.mpr fun c hc => decide_eq_true (Nat.lt_trans (hx c hc) (by decide))
  · rw [PyData.bulk]
    exact hb
theorem sza_nil {b m : Nat} : SzA b m [] := ⟨rfl, rfl, Nat.zero_le _, Nat.zero_le _⟩
theorem sza_cons {b b' m : Nat} {d : PyData} {ds : List PyData} (h : Sz b m d) (r : SzA b' m ds) : SzA (b + 1 + b') m (d :: ds) := by
  refine ⟨by rw [PyData.showableAll, h.sh, r.sh]; rfl, by rw [PyData.leavesShortAll, h.lf, r.lf]; rfl, ?_, ?_⟩
  · have h1 := h.bk
    have h2 := r.bk
    rw [PyData.bulkAll]
    omega
  · rw [PyData.depthAll]
    exact Nat.max_le.mpr ⟨h.dp, r.dp⟩
theorem szk_nil {b m : Nat} : SzK b m [] := ⟨rfl, rfl, Nat.zero_le _, Nat.zero_le _⟩
theorem szk_cons {a b b' m : Nat} {k d : PyData} {es : List (PyData × PyData)} (hk : Sz a m k) (h : Sz b m d) (r : SzK b' m es) : SzK (a + b + 2 + b') m ((k, d) :: es) := by
  refine ⟨by rw [PyData.showableKv, hk.sh, h.sh, r.sh]; rfl, by rw [PyData.leavesShortKv, hk.lf, h.lf, r.lf]; rfl, ?_, ?_⟩
  · have h0 := hk.bk
    have h1 := h.bk
    have h2 := r.bk
    rw [PyData.bulkKv]
    omega
  · rw [PyData.depthKv]
    exact Nat.max_le.mpr ⟨Nat.max_le.mpr ⟨hk.dp, h.dp⟩, r.dp⟩
theorem sz_list {b m : Nat} {ds : List PyData} (h : SzA b m ds) : Sz b (m + 1) (.list ds) := ⟨by rw [PyData.showable]; exact h.sh, by rw [PyData.leavesShort]; exact h.lf, by rw [PyData.bulk]; exact h.bk, by rw [PyData.depth]; exact Nat.succ_le_succ h.dp⟩
theorem sz_tuple {b m : Nat} {ds : List PyData} (h : SzA b m ds) : Sz b (m + 1) (.tuple ds) := ⟨by rw [PyData.showable]; exact h.sh, by rw [PyData.leavesShort]; exact h.lf, by rw [PyData.bulk]; exact h.bk, by rw [PyData.depth]; exact Nat.succ_le_succ h.dp⟩
theorem sz_dict {b m : Nat} {es : List (PyData × PyData)} (h : SzK b m es) : Sz b (m + 1) (.dict es) := ⟨by rw [PyData.showable]; exact h.sh, by rw [PyData.leavesShort]; exact h.lf, by rw [PyData.bulk]; exact h.bk, by rw [PyData.depth]; exact Nat.succ_le_succ h.dp⟩
theorem sza_all {b m : Nat} : ∀ {ds : List PyData}, (∀ d ∈ ds, Sz b m d) → SzA ((b + 1) * ds.length) m ds
  | [], _ => ⟨rfl, rfl, Nat.zero_le _, Nat.zero_le _⟩
  | d :: r, h => by
    have z := sza_cons (h d List.mem_cons_self) (sza_all fun x hx => h x (List.mem_cons_of_mem _ hx))
    refine ⟨z.sh, z.lf, ?_, z.dp⟩
    have y := z.bk
    rw [List.length_cons, Nat.mul_add, Nat.mul_one]
    omega
end Cr
/-! the order of texts and of pairs of texts; sorted of data -/
namespace Cr
open PySem PySem.Spec PyProof.Rows L2 Evl
/-! ### texts -/
def leS (x y : Str) : Bool := decide (x.cps.toList ≤ y.cps.toList)
def ltS (x y : Str) : Prop := x.cps.toList < y.cps.toList
theorem leS_trans (x y z : Str) (h1 : leS x y = true) (h2 : leS y z = true) : leS x z = true := decide_eq_true (List.le_trans (of_decide_eq_true h1) (of_decide_eq_true h2))
theorem leS_total (x y : Str) : (leS x y || leS y x) = true := by
  rcases List.le_total (x.cps.toList) (y.cps.toList) with h | h
  · rw [show leS x y = true from decide_eq_true h, Bool.true_or]
  · rw [show leS y x = true from decide_eq_true h, Bool.or_true]
theorem leS_anti {x y : Str} (h1 : leS x y = true) (h2 : leS y x = true) : x = y := PySem.W.str_of_cps (List.le_antisymm (of_decide_eq_true h1) (of_decide_eq_true h2))
theorem ltS_irrefl (x : Str) : ¬ ltS x x := List.lt_irrefl _
theorem ltS_trans {x y z : Str} (h1 : ltS x y) (h2 : ltS y z) : ltS x z := List.lt_trans h1 h2
theorem leS_ltS {x y : Str} (h : leS x y = true) (n : x ≠ y) : ltS x y := by
  rcases List.le_iff_lt_or_eq.mp (of_decide_eq_true h) with z | z
  · exact z
  · exact absurd (PySem.W.str_of_cps z) n
/-- a list of texts, sorted -/
def srtS (xs : List Str) : List Str := xs.mergeSort leS
theorem srtS_perm (xs : List Str) : (srtS xs).Perm xs := List.mergeSort_perm _ _
theorem srtS_le (xs : List Str) : (srtS xs).Pairwise (fun x y => leS x y = true) := List.pairwise_mergeSort leS_trans leS_total xs
theorem srtS_lt {xs : List Str} (h : xs.Nodup) : (srtS xs).Pairwise ltS := by
  have nd : (srtS xs).Nodup := (srtS_perm xs).nodup_iff.mpr h
  have a := srtS_le xs
  rw [List.Nodup] at nd
  exact (a.and nd).imp fun ⟨h1, h2⟩ => leS_ltS h1 h2
/-- two lists that rise strictly and have the same items are the same -/
theorem rise_eq {α : Type} {lt : α → α → Prop} (ir : ∀ x, ¬ lt x x) (tr : ∀ {x y z}, lt x y → lt y z → lt x z) : ∀ {xs ys : List α}, xs.Pairwise lt → ys.Pairwise lt → (∀ a, a ∈ xs ↔ a ∈ ys) → xs = ys
  | [], [], _, _, _ => rfl
  | [], y :: ys, _, _, h => absurd ((h y).mpr List.mem_cons_self) (by simp)
  | x :: xs, [], _, _, h => absurd ((h x).mp List.mem_cons_self) (by simp)
  | x :: xs, y :: ys, h1, h2, h => by
    rw [List.pairwise_cons] at h1 h2
    have e : x = y := by
      rcases List.mem_cons.mp ((h x).mp List.mem_cons_self) with e | m
      · exact e
      · rcases List.mem_cons.mp ((h y).mpr List.mem_cons_self) with e | m2
        · exact e.symm
        · exact absurd (tr (h1.1 y m2) (h2.1 x m)) (ir x)
    subst e
    rw [rise_eq ir tr h1.2 h2.2 fun a => ?_]
    constructor
    · intro m
      rcases List.mem_cons.mp ((h a).mp (List.mem_cons_of_mem _ m)) with e | m2
      · subst e; exact absurd (h1.1 a m) (ir a)
      · exact m2
    · intro m
      rcases List.mem_cons.mp ((h a).mpr (List.mem_cons_of_mem _ m)) with e | m2
      · subst e; exact absurd (h2.1 a m) (ir a)
      · exact m2
theorem srt_uniq {xs ys : List Str} (p : ys.Perm xs) (s : ys.Pairwise (fun x y => leS x y = true)) : ys = srtS xs :=
  (p.trans (srtS_perm xs).symm).eq_of_pairwise (fun _ _ _ _ => leS_anti) s (srtS_le xs)
theorem sorted_le : ∀ {xs : List Str}, sortedS xs = true → xs.Pairwise (fun x y => leS x y = true) := by
  have lt_le : ∀ {x y : Str}, (!ltCps y.cps.toList x.cps.toList) = true → leS x y = true := fun {x y} h => by
    rw [Bool.not_eq_true'] at h
    refine decide_eq_true (List.not_lt.mp fun z => ?_)
    have : ltCps y.cps.toList x.cps.toList = true := by rw [ltCps_eq]; exact decide_eq_true z
    rw [h] at this
    cases this
  have go : ∀ (xs : List Str) (p : Str), risingS p xs = true → (∀ x ∈ xs, leS p x = true) ∧ xs.Pairwise (fun x y => leS x y = true) := by
    intro xs
    induction xs with
    | nil => intro p _; exact ⟨by simp, .nil⟩
    | cons x r ih =>
      intro p h
      rw [risingS, Bool.and_eq_true] at h
      obtain ⟨a, b⟩ := ih x h.2
      have px := lt_le h.1
      refine ⟨fun y hy => ?_, List.pairwise_cons.mpr ⟨a, b⟩⟩
      rcases List.mem_cons.mp hy with rfl | hy
      · exact px
      · exact leS_trans _ _ _ px (a y hy)
  intro xs h
  cases xs with
  | nil => exact .nil
  | cons x r => exact List.pairwise_cons.mpr (go r x h)
theorem sorted_is {xs ys : List Str} (p : ys.Perm xs) (s : sortedS ys = true) : ys = srtS xs := srt_uniq p (sorted_le s)
/-! ### pairs of texts -/
/-! ### sorted of data -/
theorem dtAll_zip {H : Hp} : ∀ {xs : List V} {ds : List PyData}, DtAll H xs ds → (∀ b ∈ xs.zip ds, Dt H b.1 b.2) ∧ (xs.zip ds).map (·.2) = ds ∧ (xs.zip ds).map (·.1) = xs
  | _, _, .nil => ⟨by simp, rfl, rfl⟩
  | _, _, .cons a b => by
    obtain ⟨h1, h2, h3⟩ := dtAll_zip b
    refine ⟨fun x hx => ?_, by rw [List.zip_cons_cons, List.map_cons, h2], by rw [List.zip_cons_cons, List.map_cons, h3]⟩
    rw [List.zip_cons_cons] at hx
    rcases List.mem_cons.mp hx with rfl | hx
    · exact a
    · exact h1 x hx
theorem dtAll_of {H : Hp} : ∀ {bs : List (V × PyData)}, (∀ b ∈ bs, Dt H b.1 b.2) → DtAll H (bs.map (·.1)) (bs.map (·.2))
  | [], _ => .nil
  | b :: r, h => .cons (h b List.mem_cons_self) (dtAll_of fun x hx => h x (List.mem_cons_of_mem _ hx))
end Cr
/-! libraries: what they are (pure) -/
namespace Cr
open PySem PySem.Spec PyProof.Rows L2 Evl
abbrev Prog := List (List PyData)
abbrev Lib := List (Str × Prog)
def progD (p : Prog) : PyData := .list (p.map PyData.tuple)
def libD (L : Lib) : PyData := .dict (L.map fun r => (.str r.1, progD r.2))
def okMod (ns : List Str) (ds : List PyData) : Bool :=
  match modO (.tuple ds) with
  | some x => decide (x ∈ ns)
  | none => true
/-- a program of valid steps -/
structure ProgV (p : Prog) : Prop where
  len : p.length ≤ 30
  st : ∀ ds ∈ p, isStep (.tuple ds) = true
  bf : ∀ (j : Nat) ds, p[j]? = some ds → isBefore (.tuple ds) ((p.length : Int) - j - 1) = true
  it : ∀ ds ∈ p, ∀ i, PyData.int i ∈ ds → i.natAbs ≤ 10 ^ 30
/-- a library but for its modules' being known -/
structure LibV (L : Lib) : Prop where
  nm : ∀ r ∈ L, isNameS r.1 = true
  nd : (L.map (·.1)).Nodup
  l1 : 1 ≤ L.length
  l40 : L.length ≤ 40
  ok : ∀ r ∈ L, ProgV r.2
structure LibOk (L : Lib) : Prop where
  v : LibV L
  mi : ∀ r ∈ L, ∀ ds ∈ r.2, okMod (L.map (·.1)) ds = true
def rowL (L : Lib) (n : Str) : Option (Str × Prog) := L.find? fun r => decide (r.1 = n)
def progL (L : Lib) (n : Str) : Prog := match rowL L n with | some r => r.2 | none => []
def srtL (L : Lib) : Lib := (srtS (L.map (·.1))).map fun n => (n, progL L n)
theorem rowL_mem {L : Lib} {n : Str} {r : Str × Prog} (h : rowL L n = some r) : r ∈ L ∧ r.1 = n := by
  unfold rowL at h
  have z := List.find?_some h
  exact ⟨List.mem_of_find?_eq_some h, of_decide_eq_true z⟩
theorem rowL_in {L : Lib} {r : Str × Prog} (hk : (L.map (·.1)).Nodup) (h : r ∈ L) : rowL L r.1 = some r := by
  induction L with
  | nil => exact nomatch h
  | cons y g ih =>
    rw [List.map_cons, List.nodup_cons] at hk
    unfold rowL
    rw [List.find?_cons]
    rcases List.mem_cons.mp h with rfl | h
    · rw [decide_eq_true rfl]
    · have n : ¬ y.1 = r.1 := fun e => hk.1 (by rw [e]; exact List.mem_map_of_mem h)
      rw [decide_eq_false n]
      exact ih hk.2 h
theorem progL_in {L : Lib} {r : Str × Prog} (hk : (L.map (·.1)).Nodup) (h : r ∈ L) : progL L r.1 = r.2 := by
  unfold progL
  rw [rowL_in hk h]
theorem srt_names (L : Lib) : (srtL L).map (·.1) = srtS (L.map (·.1)) := by
  unfold srtL
  rw [List.map_map]
  exact (List.map_congr_left (g := id) fun n _ => rfl).trans (List.map_id _)
theorem mem_srt {L : Lib} (hk : (L.map (·.1)).Nodup) (r : Str × Prog) : r ∈ srtL L ↔ r ∈ L := by
  unfold srtL
  rw [List.mem_map]
  constructor
  · rintro ⟨n, hn, rfl⟩
    have hn := (srtS_perm _).mem_iff.mp hn
    obtain ⟨y, hy, rfl⟩ := List.mem_map.mp hn
    rw [progL_in hk hy]
    exact hy
  · intro h
    exact ⟨r.1, (srtS_perm _).mem_iff.mpr (List.mem_map_of_mem h), by rw [progL_in hk h]⟩
theorem srt_up {L : Lib} (hk : (L.map (·.1)).Nodup) : ((srtL L).map (·.1)).Pairwise ltS := by
  rw [srt_names]
  exact srtS_lt hk
theorem up_nodup {xs : List Str} (h : xs.Pairwise ltS) : xs.Nodup := by
  rw [List.Nodup]
  exact h.imp fun {a b} z (e : a = b) => ltS_irrefl a (by rw [← e] at z; exact z)
theorem up_same {xs ys : List Str} (h1 : xs.Pairwise ltS) (h2 : ys.Pairwise ltS) (h : ∀ a, a ∈ xs ↔ a ∈ ys) : xs = ys := rise_eq (lt := ltS) ltS_irrefl ltS_trans h1 h2 h
theorem lib_rows {L : Lib} (hk : (L.map (·.1)).Nodup) : (L.map (·.1)).map (fun n => (n, progL L n)) = L := by
  rw [List.map_map]
  refine (List.map_congr_left (g := id) fun r hr => ?_).trans (List.map_id _)
  show (r.1, progL L r.1) = r
  rw [progL_in hk hr]
theorem srt_id {L : Lib} (h : (L.map (·.1)).Pairwise ltS) : srtL L = L := by
  have hk := up_nodup h
  have e : srtS (L.map (·.1)) = L.map (·.1) := up_same (srtS_lt hk) h fun a => (srtS_perm _).mem_iff
  unfold srtL
  rw [e]
  exact lib_rows hk
theorem srt_same {L L' : Lib} (h : (L.map (·.1)).Nodup) (h' : (L'.map (·.1)).Nodup) (m : ∀ r, r ∈ L ↔ r ∈ L') : srtL L = srtL L' := by
  have e : srtS (L.map (·.1)) = srtS (L'.map (·.1)) := up_same (srtS_lt h) (srtS_lt h') fun a => by
    rw [(srtS_perm _).mem_iff, (srtS_perm _).mem_iff, List.mem_map, List.mem_map]
    exact ⟨fun ⟨r, hr, e⟩ => ⟨r, (m r).mp hr, e⟩, fun ⟨r, hr, e⟩ => ⟨r, (m r).mpr hr, e⟩⟩
  unfold srtL
  rw [e]
  refine List.map_congr_left fun n hn => ?_
  have hn := (srtS_perm _).mem_iff.mp hn
  obtain ⟨r, hr, rfl⟩ := List.mem_map.mp hn
  rw [progL_in h' hr, progL_in h ((m r).mpr hr)]
theorem srt_len (L : Lib) : (srtL L).length = L.length := by
  unfold srtL
  rw [List.length_map, (srtS_perm _).length_eq, List.length_map]
theorem srt_v {L : Lib} (h : LibV L) : LibV (srtL L) :=
  ⟨fun r hr => h.nm r ((mem_srt h.nd r).mp hr), up_nodup (srt_up h.nd), by rw [srt_len]; exact h.l1, by rw [srt_len]; exact h.l40, fun r hr => h.ok r ((mem_srt h.nd r).mp hr)⟩
theorem okMod_same {ns ns' : List Str} (m : ∀ a, a ∈ ns ↔ a ∈ ns') (ds : List PyData) : okMod ns ds = okMod ns' ds := by
  unfold okMod
  cases modO (.tuple ds) with
  | none => rfl
  | some x => exact decide_eq_decide.mpr (m x)
def optV : Option Str → V
  | none => .non
  | some x => .str x
theorem inV_opt (x : Str) : ∀ l : List (Option Str), inV (.str x) (l.map optV) = decide (some x ∈ l)
  | [] => rfl
  | a :: l => by
    have ih := inV_opt x l
    have e : inV (.str x) ((a :: l).map optV) = (eqV (optV a) (.str x) || inV (.str x) (l.map optV)) := by
      unfold inV
      rw [List.map_cons, List.any_cons]
    have e2 : eqV (optV a) (.str x) = decide (some x = a) := by
      cases a with
      | none => rfl
      | some y =>
        show (y == x) = decide (some x = some y)
        rw [Bool.eq_iff_iff, beq_iff_eq, decide_eq_true_eq]
        exact ⟨fun h => by rw [h], fun h => (Option.some.inj h).symm⟩
    rw [e, ih, e2, Bool.eq_iff_iff, Bool.or_eq_true, decide_eq_true_eq, decide_eq_true_eq, decide_eq_true_eq, List.mem_cons]
theorem mods_ok {ns : List Str} {known : List (Option Str)} (hk : ∀ x, some x ∈ known ↔ x ∈ ns) (ds : List PyData) : modsOk (some (known.map optV)) (.tuple ds) = okMod ns ds := by
  unfold modsOk okMod
  cases modO (.tuple ds) with
  | none => rfl
  | some x =>
    show ([x].all fun x => inV (.str x) (known.map optV)) = decide (x ∈ ns)
    rw [List.all_cons, List.all_nil, Bool.and_true, inV_opt]
    exact decide_eq_decide.mpr (hk x)
theorem getD_at {α : Type} {l : List α} {i : Nat} (d : α) (h : i < l.length) : l.getD i d = l[i] := by
  rw [List.getD_eq_getElem?_getD, List.getElem?_eq_getElem h]
  rfl
theorem getD_map {α β : Type} (f : α → β) {l : List α} {i : Nat} (d : β) (e : α) (h : i < l.length) : (l.map f).getD i d = f (l.getD i e) := by
  rw [getD_at _ (by rw [List.length_map]; exact h), List.getElem_map, getD_at _ h]
theorem nm_sm {x : Str} (h : isNameS x = true) : sm (.str x) = true := by
  have := (low_free h).1
  exact decide_eq_true (by omega)
theorem prog_sm {p : Prog} (v : ProgV p) : sm (progD p) = true := by
  unfold progD
  rw [sm, Bool.and_eq_true, List.length_map]
  refine ⟨decide_eq_true (by have := v.len; omega), smAll_of fun d hd => ?_⟩
  obtain ⟨ds, hds, rfl⟩ := List.mem_map.mp hd
  exact step_sm (v.st ds hds)
theorem due_prog {p : Prog} {ns : List Str} (v : ProgV p) (hm : ∀ ds ∈ p, okMod ns ds = true) : dueOf (some (ns.map V.str)) false (progD p) = none := by
  have h30 : ¬ (p.map PyData.tuple).length > 30 := by rw [List.length_map]; have := v.len; omega
  have e : dueOf (some (ns.map V.str)) false (progD p) = (firstBad (some (ns.map V.str)) false (p.map PyData.tuple)).map fun i => (i : Int) := if_neg h30
  rw [e, first_none fun j hj => ?_]
  · rfl
  rw [List.length_map] at hj
  unfold wrongAt
  rw [getD_map PyData.tuple .none [] hj, List.length_map, Bool.false_and, Bool.or_false]
  have gj := getD_at ([] : List PyData) hj
  have mem : p.getD j [] ∈ p := by rw [gj]; exact List.getElem_mem hj
  have bf := v.bf j (p.getD j []) (by rw [gj]; exact List.getElem?_eq_getElem hj)
  unfold fitsIn
  rw [bf, Bool.true_and]
  have e2 : modsOk (some (ns.map V.str)) (.tuple (p.getD j [])) = true := by
    have z := mods_ok (known := ns.map some) (ns := ns) (fun x => by rw [List.mem_map]; exact ⟨fun ⟨y, hy, e⟩ => by cases e; exact hy, fun h => ⟨x, h, rfl⟩⟩) (p.getD j [])
    rw [hm _ mem] at z
    rw [List.map_map] at z
    exact z
  rw [e2]
  rfl
theorem cutV_from' {xs : List V} (k : Nat) : cutV xs (some (k : Int)) none = xs.drop k := by
  unfold cutV
  rw [HT.sIx_none, HT.sIx_nat]
  by_cases h : k ≤ xs.length
  · rw [Nat.min_eq_left h, List.take_of_length_le (by rw [List.length_drop]; omega)]
  · rw [Nat.min_eq_right (by omega), List.drop_of_length_le (Nat.le_refl _), List.drop_of_length_le (by omega), List.take_nil]
end Cr
namespace Cr
open PySem PySem.Spec PyProof.Rows L2 Evl
abbrev sBareW : Stmt := topS 13
abbrev sBareI : Stmt := topS 23
abbrev sBareP : Stmt := topS 24
abbrev nBareP : List Str := ["program", "step", "item"]
theorem scBareW : FnScope ["word"] ["word"] (defScope sBareW) := ⟨rfl, rfl, rfl, by decide +kernel, rfl, by decide +kernel, by decide +kernel⟩
theorem scBareI : FnScope ["item"] ["item"] (defScope sBareI) := ⟨rfl, rfl, rfl, by decide +kernel, rfl, by decide +kernel, by decide +kernel⟩
theorem scBareP : FnScope nBareP ["program"] (defScope sBareP) := ⟨rfl, rfl, rfl, by decide +kernel, rfl, by decide +kernel, by decide +kernel⟩
/-- check_program, as it is called: one value, or is_main by its name -/
structure HasC (P : Program) (w : World) (K : PySem.W.Frag) (mg : Str → Option Value) (base : Heap) (k : Nat) (C : Addr) : Prop where
  ex : ∃ f fd, FnOk P w K mg base (L2.CX P w) k f fd ["value", "is_main"] (spCheck C) ∧ (∃ ds, Vals [.bl false] ds ∧ Binds K fd ["value", "is_main"] ds) ∧ (∃ g, KBn K fd ["value", "is_main"] 1 ["is_main"] g (fun vs zs => vs ++ zs)) ∧
    PySem.W.keepIn K (.ref f) = true ∧ mg "check_program" = some (.ref f)
/-! ### bare values -/
/-- texts and ints of a step -/
def bareV : V → Bool
  | .int _ => true
  | .str x => decide (x.length ≤ 1000)
  | _ => false
def spBareW : Sp := fun vs H Q _ => ∃ x : Str, vs = [.str x] ∧ x.length ≤ 1000 ∧ ∀ H', Ex H H' → Q (.str x) H'
def spBareI : Sp := fun vs H Q _ => ∃ v : V, vs = [v] ∧ bareV v = true ∧ ∀ H', Ex H H' → Q v H'
/-- steps stand at the places xs: tuples of the values vss -/
def Steps (H : Hp) : List V → List (List V) → Prop
  | [], [] => True
  | x :: xs, vs :: vss => (∃ t, x = .ref t ∧ H t = some (.tup vs)) ∧ Steps H xs vss
  | _, _ => False
/-- all tuples stand as they stood -/
def Tps (H H' : Hp) : Prop := ∀ a xs, H a = some (.tup xs) → H' a = some (.tup xs)
theorem Ex.tps {H H' : Hp} (e : Ex H H') : Tps H H' := fun a xs h => e a _ h
theorem Tps.refl (H : Hp) : Tps H H := fun _ _ h => h
theorem Tps.trans {H H1 H2 : Hp} (a : Tps H H1) (b : Tps H1 H2) : Tps H H2 := fun x o h => b x o (a x o h)
theorem Tps.upd {H H' : Hp} {p : Addr} {o : HO} (a : Tps H H') (h : ∀ xs, H' p ≠ some (.tup xs)) : Tps H (upd H' p o) := fun x xs z => by
  have y := a x xs z
  rw [upd_ne (fun e => h xs (by rw [← e]; exact y))]
  exact y
theorem Steps.tps {H H' : Hp} (e : Tps H H') : ∀ {xs : List V} {vss : List (List V)}, Steps H xs vss → Steps H' xs vss
  | [], [], _ => trivial
  | _ :: _, _ :: _, ⟨⟨t, h1, h2⟩, h⟩ => ⟨⟨t, h1, e _ _ h2⟩, Steps.tps e h⟩
theorem Steps.length {H : Hp} : ∀ {xs : List V} {vss : List (List V)}, Steps H xs vss → xs.length = vss.length
  | [], [], _ => rfl
  | _ :: _, _ :: _, ⟨_, h⟩ => by rw [List.length_cons, List.length_cons, Steps.length h]
theorem Steps.get {H : Hp} : ∀ {xs : List V} {vss : List (List V)} {i : Nat} {vs : List V}, Steps H xs vss → vss[i]? = some vs → ∃ t, xs[i]? = some (.ref t) ∧ H t = some (.tup vs)
  | [], [], _, _, _, h => by simp at h
  | _ :: _, _ :: _, 0, _, ⟨⟨t, h1, h2⟩, _⟩, h => by simp at h; subst h; exact ⟨t, by rw [h1]; rfl, h2⟩
  | _ :: _, _ :: _, i + 1, _, ⟨_, r⟩, h => by
    obtain ⟨t, a, b⟩ := Steps.get (i := i) r (by simpa using h)
    exact ⟨t, by simpa using a, b⟩
theorem Steps.snoc {H : Hp} {t : Addr} {vs : List V} (h : H t = some (.tup vs)) : ∀ {xs : List V} {vss : List (List V)}, Steps H xs vss → Steps H (xs ++ [.ref t]) (vss ++ [vs])
  | [], [], _ => ⟨⟨t, rfl, h⟩, trivial⟩
  | _ :: _, _ :: _, ⟨a, r⟩ => ⟨a, Steps.snoc h r⟩
theorem Steps.take {H : Hp} {xs : List V} {vss : List (List V)} (h : Steps H xs vss) : ∀ {i : Nat}, Steps H (xs.take i) (vss.take i) := by
  intro i
  induction i generalizing xs vss with
  | zero => rw [List.take_zero, List.take_zero]; trivial
  | succ i ih =>
    match xs, vss, h with
    | [], [], _ => trivial
    | _ :: _, _ :: _, ⟨a, r⟩ => exact ⟨a, ih r⟩
/-- the data of such steps -/
def stepsD (vss : List (List V)) : List PyData := vss.map fun vs => .tuple (vs.map flD)
theorem Steps.dt {H : Hp} : ∀ {xs : List V} {vss : List (List V)}, Steps H xs vss → (∀ vs ∈ vss, vs.all flatV = true) → DtAll H xs (stepsD vss)
  | [], [], _, _ => .nil
  | _ :: _, vs :: vss, ⟨⟨t, h1, h2⟩, r⟩, hf => by
    subst h1
    exact .cons (.tup h2 (dtAll_flat (hf vs List.mem_cons_self))) (Steps.dt r fun v hv => hf v (List.mem_cons_of_mem _ hv))
/-- bare_program: new tuples of the same values -/
def spBareP : Sp := fun vs H Q _ => ∃ (a : Addr) (xs : List V) (vss : List (List V)), vs = [.ref a] ∧ H a = some (.lst xs) ∧ Steps H xs vss ∧ vss.length ≤ 1000 ∧ (∀ vs ∈ vss, vs.all bareV = true ∧ 1 ≤ vs.length ∧ vs.length ≤ 10) ∧
  ∀ l ys H', H l = none → Ex H H' → H' l = some (.lst ys) → Steps H' ys vss → Q (.ref l) H'
/-- the scope of a comprehension that is returned -/
def compScope : List Stmt → Scope
  | [.Return (some (.ListComp _ _ sc _)) _] => sc
  | _ => { kind := .function, names := [], isGenerator := false, isCoroutine := false, more := [] }
def rTupleOf (K : PySem.W.Frag) : List V → Hp → VK → Prop := fun xs H Q => ∃ p ys, xs = [.ref p] ∧ ((SqL K H p ys ∧ ∀ l, H l = none → Q (.ref l) (upd H l (.tup ys))) ∨ (SqT K H p ys ∧ Q (.ref p) H))
theorem eu_tupleOf {K : PySem.W.Frag} {te : TE} {σ : L2.St} {H : Hp} {xs : List V} (h : EvL te σ H xs) : EvU (tCB (rTupleOf K) (tCons te tNil)) σ H xs := fun H1 e Q q =>
  h H1 e _ fun p H2 _ e2 h2 => ⟨p, xs, rfl, .inl ⟨sq_of h2, fun l hl => q l _ (fresh_back e2 hl) (e2.trans (Ex.new hl)) upd_same⟩⟩
theorem join_one (x : Str) : Txt.join ("" : Str) [x] = x := by
  rw [TL.join_eq]
  rfl
section
variable {P : Program} {w : World} {K : PySem.W.Frag} {mg : Str → Option Value} {base : Heap}
theorem ok_bareW {f : Addr} {fd : FuncData} {k : Nat} (F : Fun K "bare_word" "bare_word" sBareW f fd) : FnOk P w K mg base CX0 (k + 1) f fd ["word"] spBareW := by
  refine F.ok scBareW (fun vs H Q E h => by obtain ⟨_, rfl, _⟩ := h; rfl) (fun cdv A outer s H vs Q E hr h => ?_)
  obtain ⟨x, rfl, hx, q⟩ := h
  refine ⟨_, pss_one (ps_ret (pe_join pe_str (pe_lst (pa_cons (pv 0) pa_nil)))), ?_⟩
  refine ⟨⟨_, rfl⟩, _, rfl, by show 1 ≤ sizeLine; decide, fun l hl => ⟨_, l, [x], rfl, rfl, .inl (sq_of upd_same), ?_, ?_⟩⟩
  · have e0 : (("" : Str)).length = 0 := by decide +kernel
    simp [e0]
    omega
  · have g := q _ (Ex.new (o := .lst [.str x]) hl)
    rw [← join_one x] at g
    exact g
theorem ok_bareI {f : Addr} {fd : FuncData} {k : Nat} (F : Fun K "bare_item" "bare_item" sBareI f fd) (B : Blt mg) (h1 : HasO P w K mg base k "bare_word" ["word"] spBareW) : FnOk P w K mg base CX0 (k + 1) f fd ["item"] spBareI := by
  obtain ⟨f1, d1, G1, b1, k1, g1⟩ := h1.ex
  refine F.ok scBareI (fun vs H Q E h => by obtain ⟨_, rfl, _⟩ := h; rfl) (fun cdv A outer s H vs Q E hr h => ?_)
  obtain ⟨v, rfl, hv, q⟩ := h
  refine ⟨_, pss_one (ps_ret (pe_ifExp (pt_val (pe_callB call_isi (by rfl) B.isi bIsi (pa_cons (pv 0) (pa_cons (pe_bltn (v := .ty "str") (by rfl) B.str bStr rfl) pa_nil)))) (pe_call G1 hr (by rfl) g1 k1 b1 .nil pass0 (pa_cons (pv 0) pa_nil))
    (pe_callTy call_int1 (by rfl) B.int bInt (pa_cons (pv 0) pa_nil)))), ?_⟩
  cases v with
  | int i =>
    have isS := rc_isi (K := K) (H := H) (T := "str") (Dt.int i) memS
    exact s_ret (ev_if (b := false) (et_B (ev_cb (ea_cons (ev_var rfl) (ea_cons ev_c ea_nil)) isS)) (fun z => nomatch z) fun _ => ev_cb (ea_cons (ev_var rfl) ea_nil) (fun H1 _ Q q => .inl ⟨i, rfl, q H1 (Ex.refl H1)⟩)) q
  | str x =>
    have isS := rc_isi (K := K) (H := H) (T := "str") (Dt.str x) memS
    exact s_ret (ev_if (b := true) (et_B (ev_cb (ea_cons (ev_var rfl) (ea_cons ev_c ea_nil)) isS)) (fun _ => ev_call (ea_cons (ev_var rfl) ea_nil) fun H1 e1 Q q E => ⟨x, rfl, of_decide_eq_true hv, q⟩) fun z => nomatch z) q
  | _ => exact nomatch hv
theorem ok_bareP {f : Addr} {fd : FuncData} {k : Nat} (F : Fun K "bare_program" "bare_program" sBareP f fd) (B : Blt mg) (h1 : HasO P w K mg base k "bare_item" ["item"] spBareI) : FnOk P w K mg base CX0 (k + 1) f fd ["program"] spBareP := by
  obtain ⟨f1, d1, G1, b1, k1, g1⟩ := h1.ex
  refine F.ok scBareP (fun vs H Q E h => by obtain ⟨_, _, _, rfl, _⟩ := h; rfl) (fun cdv A outer s H vs Q E hr h => ?_)
  obtain ⟨a, xs, vss, rfl, ha, hS, hl, hb, q⟩ := h
  refine ⟨_, pss_one (ps_ret (pe_lc (own := [("step", 1)]) (g := gName 1) (tt := tYes) (te := tCB (rTupleOf K) (tCons (tLc (iTup K (tVar 1)) (gName 2) tYes (tCall spBareI [] E0 (tCons (tVar 2) tNil)) [2]) tNil)) rfl scBareP.nd (pi_list (pv 0)) (blkOk_by (own := [("step", 1)]) (N := nBareP) (sc := defScope sBareP) (by decide +kernel))
      (fun _ _ _ _ _ => pg_name (i := 1) scBareP.nd rfl (Or.inl rfl)) (fun _ _ _ _ _ => pts_nil)
      (fun _ _ _ _ _ => by exact pe_callTy call_tuple_of (by rfl) B.tuple bTuple (pa_cons (pe_lc (own := [("item", 2)]) (g := gName 2) (tt := tYes) rfl scBareP.nd (pi_tup (pv 1)) (blkOk_by (own := [("item", 2)]) (N := nBareP) (sc := compScope (defBody sBareP)) (by decide +kernel))
        (fun _ _ _ _ _ => pg_name (i := 2) scBareP.nd rfl (Or.inl rfl)) (fun _ _ _ _ _ => pts_nil) (fun _ _ _ _ _ => pe_call G1 hr (by rfl) g1 k1 b1 .nil pass0 (pa_cons (pv 2) pa_nil))) pa_nil)))), ?_⟩
  refine ⟨.ref a, rfl, a, rfl, ⟨_, sq_of ha⟩, fun D hD => lc_list (K := K) (a := a) (xs := xs) (fun i H' => ∃ ys, H' D = some (.lst ys) ∧ Steps H' ys (vss.take i) ∧ Ex H H') ⟨[], upd_same, by rw [List.take_zero]; trivial, Ex.new hD⟩
    (fun i H' _ hP => by obtain ⟨_, _, _, e⟩ := hP; exact sq_of (e _ _ ha)) (fun i x H' hi hP => ⟨rfl, ?_⟩) (fun H' hP => by
      obtain ⟨ys, h1, h2, e⟩ := hP
      rw [hS.length, List.take_length] at h2
      exact q D ys H' hD e h1 h2)⟩
  obtain ⟨ys, h1, h2, e⟩ := hP
  have hi2 : i < vss.length := by
    have := (List.getElem?_eq_some_iff.mp hi).1
    rw [hS.length] at this
    exact this
  obtain ⟨t, ht, hT⟩ := hS.get (List.getElem?_eq_getElem hi2)
  rw [hi] at ht
  cases ht
  obtain ⟨hbv, hb1, hb2⟩ := hb _ (List.getElem_mem hi2)
  have inner : EvL (tLc (iTup K (tVar 1)) (gName 2) tYes (tCall spBareI [] E0 (tCons (tVar 2) tNil)) [2]) [some (.ref a), some (.ref t), none] H' vss[i] := by
    have lc := el_lcW (wi := iTup K (tVar 1)) (g := gName 2) (tt := tYes) (te := tCall spBareI [] E0 (tCons (tVar 2) tNil)) (vs := [2]) (σ := [some (.ref a), some (.ref t), none]) (H := H') (n := vss[i].length) (Y := YAt vss[i]) (fun _ => true) (fun j => vss[i].getD j .non) (by omega)
      (fun H5 e5 R r => ⟨.ref t, rfl, t, rfl, ⟨_, st_of ((e.trans e5) _ _ hT)⟩, r H5 _ _ walk_tup (fun H7 H8 e7 z => ex_t e7 z) (Ex.refl H5) (st_of ((e.trans e5) _ _ hT))⟩)
      (fun j y H5 H6 e5 hj hy => by
        obtain ⟨rfl, hyj⟩ := hy
        have ey : vss[i].getD j .non = y := by rw [List.getD_eq_getElem?_getD, hyj]; rfl
        refine ⟨Ex.refl _, [some (.ref a), some (.ref t), some y], rfl, fun R r => r, fun H7 _ Q q => q H7 (Ex.refl H7), fun _ => ?_⟩
        rw [ey]
        exact ev_call (ea_cons (ev_var rfl) ea_nil) fun H7 e7 Q q E => ⟨y, rfl, List.all_eq_true.mp hbv y (List.mem_of_getElem? hyj), q⟩)
    have eg : given vss[i].length (fun _ => true) (fun j => vss[i].getD j .non) = vss[i] := by
      rw [given_all]
      refine List.ext_getElem? fun j => ?_
      by_cases hj : j < vss[i].length
      · rw [List.getElem?_map, List.getElem?_range hj, List.getElem?_eq_getElem hj]
        simp [hj]
      · rw [List.getElem?_eq_none (by rw [List.length_map, List.length_range]; omega), List.getElem?_eq_none (by omega)]
    rw [eg] at lc
    exact lc
  show tCB (rTupleOf K) (tCons (tLc (iTup K (tVar 1)) (gName 2) tYes (tCall spBareI [] E0 (tCons (tVar 2) tNil)) [2]) tNil) [some (.ref a), some (.ref t), none] H' _
  refine eu_tupleOf inner H' (Ex.refl H') _ fun l H3 hl e3 h3 => ?_
  have hD3 := e3 _ _ h1
  have lD : D ≠ l := ne_of_none h1 hl
  refine ⟨ys, hD3, ?_, ys ++ [.ref l], upd_same, ?_, Ex.mut (e.trans e3) hD⟩
  · have := h2.length
    rw [List.length_take] at this
    exact sz_lt (by omega)
  · have tp : Tps H' (upd H3 D (.lst (ys ++ [.ref l]))) := (Ex.tps e3).upd fun xs z => by
      rw [hD3] at z
      cases z
    rw [← List.take_append_getElem hi2]
    exact (h2.tps tp).snoc (by rw [upd_ne lD.symm]; exact h3)
end
end Cr
/-! frames: what they look like -/
namespace Cr
open PySem PySem.Spec PyProof.Rows L2 Evl
/-! ### four variables -/
structure M4 where
  a : Int
  b : Int
  c : Int
  d : Int
def M4.kv (m : M4) : List (Key × V) := [(.inr "a", .int m.a), (.inr "b", .int m.b), (.inr "c", .int m.c), (.inr "d", .int m.d)]
def M4.get (m : M4) (x : Str) : Int := if x = "a" then m.a else if x = "b" then m.b else if x = "c" then m.c else m.d
def M4.set (m : M4) (x : Str) (v : Int) : M4 := if x = "a" then { m with a := v } else if x = "b" then { m with b := v } else if x = "c" then { m with c := v } else { m with d := v }
def M4.all (m : M4) (p : Int → Prop) : Prop := p m.a ∧ p m.b ∧ p m.c ∧ p m.d
def M4.dat (m : M4) : List (PyData × PyData) := [(.str "a", .int m.a), (.str "b", .int m.b), (.str "c", .int m.c), (.str "d", .int m.d)]
theorem M4.dt {H : Hp} (m : M4) : DtKv H m.kv m.dat := .cons (.int _) (.cons (.int _) (.cons (.int _) (.cons (.int _) .nil)))
/-! ### what else stands as it stood -/
def But (l : List Addr) (H H' : Hp) : Prop := ∀ a o, a ∉ l → H a = some o → H' a = some o
theorem But.refl {l : List Addr} (H : Hp) : But l H H := fun _ _ _ h => h
theorem But.trans {l : List Addr} {H H1 H2 : Hp} (a : But l H H1) (b : But l H1 H2) : But l H H2 := fun x o n h => b x o n (a x o n h)
theorem But.of {l : List Addr} {H H' : Hp} (e : Ex H H') : But l H H' := fun a o _ h => e a o h
theorem But.upd {l : List Addr} {H H' : Hp} {p : Addr} {o : HO} (h : But l H H') (hp : p ∈ l) : But l H (upd H' p o) := fun a u n z => by
  rw [upd_ne (fun e => n (by rw [e]; exact hp))]
  exact h a u n z
theorem But.mono {l l' : List Addr} {H H' : Hp} (h : But l H H') (s : ∀ a ∈ l, a ∈ l') : But l' H H' := fun a o n z => h a o (fun y => n (s a y)) z
/-! ### the frame -/
/-- its addresses: its own dict, steps, memory, visited -/
structure FrA where
  dx : Addr
  aS : Addr
  aM : Addr
  aV : Addr
def fl (A : FrA) (pos : Nat) : List (Str × V) := [("steps", .ref A.aS), ("position", .int (pos : Int)), ("memory", .ref A.aM), ("visited", .ref A.aV)]
def own (p : Addr) (A : FrA) : List Addr := [p, A.aM, A.aV]
structure FrameAt (C : Addr) (H : Hp) (p : Addr) (A : FrA) (vss : List (List V)) (pos : Nat) (m : M4) (n : Nat) : Prop where
  ob : H p = some (.ins C A.dx (fl A pos))
  st : ∃ xs, H A.aS = some (.lst xs) ∧ Steps H xs vss
  me : H A.aM = some (.dK m.kv)
  vi : ∃ vis, H A.aV = some (.lst vis) ∧ vis.length = n
  sv : A.aS ≠ A.aV
section
variable {C : Addr} {H H' : Hp} {p : Addr} {A : FrA} {vss : List (List V)} {pos : Nat} {m : M4} {n : Nat}
theorem FrameAt.ex (h : FrameAt C H p A vss pos m n) (e : Ex H H') : FrameAt C H' p A vss pos m n := by
  obtain ⟨xs, h1, h2⟩ := h.st
  obtain ⟨vis, h3, h4⟩ := h.vi
  exact ⟨e _ _ h.ob, ⟨xs, e _ _ h1, h2.tps (Ex.tps e)⟩, e _ _ h.me, ⟨vis, e _ _ h3, h4⟩, h.sv⟩
theorem tps_own {l : List Addr} (e : But l H H') (hl : ∀ a ∈ l, ∀ xs, H a ≠ some (.tup xs)) : Tps H H' := fun a xs z => e a _ (fun y => hl a y xs z) z
theorem FrameAt.tps {H' : Hp} (h : FrameAt C H p A vss pos m n) (e : But (own p A) H H') : Tps H H' := tps_own e fun a ha xs z => by
  obtain ⟨vis', g3, g4⟩ := h.vi
  simp only [own, List.mem_cons, List.not_mem_nil, or_false] at ha
  rcases ha with rfl | rfl | rfl
  · rw [h.ob] at z; cases z
  · rw [h.me] at z; cases z
  · rw [g3] at z; cases z
end
/-! ### steps as data -/
def dV : PyData → V
  | .int i => .int i
  | .str x => .str x
  | .bool b => .bl b
  | _ => .non
def bare8 : V → Bool
  | .int _ => true
  | .str x => decide (x.length ≤ 8) && x.cps.toList.all fun c => decide (c < 128)
  | _ => false
theorem bare8_str {x : Str} (h : bare8 (.str x) = true) : x.length ≤ 8 ∧ ∀ c ∈ x.cps.toList, c < 128 := by
  have h' : (decide (x.length ≤ 8) && x.cps.toList.all fun c => decide (c < 128)) = true := h
  obtain ⟨h1, h2⟩ := Bool.and_eq_true_iff.mp h'
  exact ⟨of_decide_eq_true h1, fun c hc => of_decide_eq_true (List.all_eq_true.mp h2 c hc)⟩
theorem bare8_bare {v : V} (h : bare8 v = true) : bareV v = true := by
  cases v with
  | str x =>
    have z : x.length ≤ 8 := (bare8_str h).1
    exact decide_eq_true (by omega)
  | int i => rfl
  | _ => exact nomatch h
theorem bare8_flat {v : V} (h : bare8 v = true) : flatV v = true := by
  cases v <;> first | rfl | exact nomatch h
/-- values of a step -/
structure StepV (vs : List V) : Prop where
  bare : vs.all bare8 = true
  step : isStep (.tuple (vs.map flD)) = true
  len1 : 1 ≤ vs.length
  len4 : vs.length ≤ 4
theorem item_bare {d : PyData} {k : Str} (h : isItem d k = true) : bare8 (dV d) = true ∧ flD (dV d) = d := by
  have vr : ∀ {d : PyData}, isVar d = true → bare8 (dV d) = true ∧ flD (dV d) = d := fun {d} h => by
    cases d with
    | str x => rcases var_cases h with rfl | rfl | rfl | rfl <;> exact ⟨by decide +kernel, rfl⟩
    | _ => exact nomatch h
  have nm : ∀ {d : PyData}, isName d = true → bare8 (dV d) = true ∧ flD (dV d) = d := fun {d} h => by
    cases d with
    | str x =>
      have z : isNameS x = true := h
      unfold isNameS at z
      simp only [Bool.and_eq_true, decide_eq_true_eq] at z
      refine ⟨?_, rfl⟩
      show (decide (x.length ≤ 8) && x.cps.toList.all fun c => decide (c < 128)) = true
      rw [decide_eq_true (show x.length ≤ 8 by omega), Bool.true_and]
      refine List.all_eq_true.mpr fun c hc => ?_
      have y := List.all_eq_true.mp z.2 c hc
      unfold isLow at y
      simp only [Bool.and_eq_true, decide_eq_true_eq] at y
      exact decide_eq_true (by omega)
    | _ => exact nomatch h
  have nt : ∀ {d : PyData}, isInteger d = true → bare8 (dV d) = true ∧ flD (dV d) = d := fun {d} h => by
    cases d with
    | int i => exact ⟨rfl, rfl⟩
    | _ => exact nomatch h
  unfold isItem at h
  split at h
  · exact vr h
  split at h
  · exact nt h
  split at h
  · exact nt (Bool.and_eq_true_iff.mp h).1
  · exact nm h
theorem kind_bare {z : Str} {ks : List Str} (h : shapeOf z = some ks) : bare8 (.str z) = true ∧ ks.length ≤ 3 := by
  unfold shapeOf at h
  repeat' split at h
  all_goals first
    | (rename_i e; subst e; cases h; exact ⟨by decide +kernel, by decide⟩)
    | cases h
theorem step_bare {d : PyData} (h : isStep d = true) : ∃ vs, d = .tuple (vs.map flD) ∧ StepV vs := by
  obtain ⟨z, ds, rfl⟩ := step_form h
  obtain ⟨ks, hk⟩ : ∃ ks, shapeOf z = some ks := by
    cases hs : shapeOf z with
    | some ks => exact ⟨ks, rfl⟩
    | none =>
      have zz : isStep (.tuple (.str z :: ds)) = false := by
        show (match shapeOf z with | some ks => _ | none => false) = false
        rw [hs]
      rw [zz] at h
      cases h
  have h0 := h
  rw [isStep_eq hk] at h
  obtain ⟨h1, h2⟩ := Bool.and_eq_true_iff.mp h
  have hl : ds.length = ks.length := of_decide_eq_true h1
  obtain ⟨b1, b2⟩ := kind_bare hk
  have each : ∀ d ∈ ds, bare8 (dV d) = true ∧ flD (dV d) = d := fun d hd => by
    obtain ⟨i, hi, rfl⟩ := List.mem_iff_getElem.mp hd
    have z := List.all_eq_true.mp h2 (isItem (ds.getD i .none) (ks.getD i "")) (List.mem_map.mpr ⟨i, List.mem_range.mpr (by omega), rfl⟩)
    rw [List.getD_eq_getElem?_getD, List.getElem?_eq_getElem hi] at z
    exact item_bare z
  have em : (ds.map dV).map flD = ds := by
    rw [List.map_map]
    exact (List.map_congr_left (g := id) fun d hd => (each d hd).2).trans (List.map_id _)
  have e : PyData.tuple (.str z :: ds) = .tuple ((V.str z :: ds.map dV).map flD) := by
    rw [List.map_cons, em]
    rfl
  refine ⟨.str z :: ds.map dV, e, ?_, ?_, ?_, ?_⟩
  · rw [List.all_cons, b1, Bool.true_and, List.all_map]
    exact List.all_eq_true.mpr fun d hd => (each d hd).1
  · rw [← e]; exact h0
  · rw [List.length_cons]; omega
  · rw [List.length_cons, List.length_map]; omega
theorem dt_bare {H : Hp} : ∀ {xs vs : List V}, DtAll H xs (vs.map flD) → vs.all bare8 = true → xs = vs
  | [], [], _, _ => rfl
  | x :: xs, v :: vs, h, hb => by
    rw [List.all_cons, Bool.and_eq_true] at hb
    have h' : DtAll H (x :: xs) (flD v :: vs.map flD) := h
    cases h' with
    | cons h1 h2 =>
      have e2 := dt_bare h2 hb.2
      have e1 : x = v := by
        cases v with
        | int i => cases h1; rfl
        | str z => cases h1; rfl
        | _ => exact nomatch hb.1
      rw [e1, e2]
theorem steps_of {H : Hp} : ∀ {xs : List V} {ds : List PyData}, DtAll H xs ds → (∀ d ∈ ds, isStep d = true) → ∃ vss, ds = stepsD vss ∧ Steps H xs vss ∧ ∀ vs ∈ vss, StepV vs
  | _, _, .nil, _ => ⟨[], rfl, trivial, fun _ h => nomatch h⟩
  | _, _, .cons h1 h2, hs => by
    obtain ⟨vss, e, st, g⟩ := steps_of h2 fun d hd => hs d (List.mem_cons_of_mem _ hd)
    obtain ⟨vs, rfl, sv⟩ := step_bare (hs _ List.mem_cons_self)
    cases h1 with
    | @tup t zs _ ht hz =>
      have ez := dt_bare hz sv.bare
      subst ez
      exact ⟨zs :: vss, by rw [e]; rfl, ⟨⟨t, rfl, ht⟩, st⟩, fun v hv => by
        rcases List.mem_cons.mp hv with z | z
        · rw [z]; exact sv
        · exact g v z⟩
end Cr
/-! frames: the methods -/
namespace Cr
open PySem PySem.Spec PyProof.Rows L2 Evl
/-- a method as it is called -/
structure HasM (P : Program) (w : World) (K : PySem.W.Frag) (mg : Str → Option Value) (base : Heap) (CX : CXT) (k : Nat) (C : Addr) (m : Str) (ps : List Str) (sp : Sp) : Prop where
  ex : ∃ f fd, FnOk P w K mg base CX k f fd ps sp ∧ Binds K fd ps [] ∧ Meth K C m f
theorem HasM.up {P : Program} {w : World} {K : PySem.W.Frag} {mg : Str → Option Value} {base : Heap} {CX : CXT} {C : Addr} {m : Str} {ps : List Str} {sp : Sp} {j k : Nat} (h : HasM P w K mg base CX j C m ps sp) (le : j ≤ k) : HasM P w K mg base CX k C m ps sp := by
  obtain ⟨f, fd, G, b, kp⟩ := h.ex
  exact ⟨⟨f, fd, fnUp G le, b, kp⟩⟩
section
variable {K : PySem.W.Frag} {σ : L2.St} {H : Hp} {te td ty : TE} {v : V}
theorem q_asgAny {i : Nat} {D : Ends} {tz : TS} (h : te σ H fun v H1 => tz D (σ.set i (some v)) H1) : tSeq (tAsg te (gName i)) tz D σ H := h
theorem ev_fld {p C dx : Addr} {fs : List (Str × V)} {f : Str} (he : Ev te σ H (.ref p)) (h : H p = some (.ins C dx fs)) (cl : Cls K C) (n : NoAttr K C f) (l : fs.lookup f = some v) : Ev (tFld K te f) σ H v := fun H1 e Q q =>
  he H1 e _ fun H2 e2 => ⟨p, C, dx, fs, v, rfl, (e.trans e2) _ _ h, cl, n, l, q H2 e2⟩
theorem ev_dget {a : Addr} {kvs : List (Key × V)} {x : Str} (hd : Ev td σ H (.ref a)) (hy : Ev ty σ H (.str x)) (h : H a = some (.dK kvs)) (hv : valV kvs (.inr x) = some v) : Ev (tDGet td ty) σ H v := fun H1 e Q q =>
  hd H1 e _ fun H2 e2 => hy H2 (e.trans e2) _ fun H3 e3 => ⟨a, v, rfl, by
    have z := DGet.k (k := .inr x) (((e.trans e2).trans e3) _ _ h)
    rw [hv] at z
    exact z, q H3 (e2.trans e3)⟩
end
end Cr
/-! frames: the making, the plain steps -/
namespace Cr
open PySem PySem.Spec PyProof.Rows L2 Evl
theorem stepV_bare {vs : List V} (h : StepV vs) : vs.all bareV = true ∧ 1 ≤ vs.length ∧ vs.length ≤ 10 :=
  ⟨List.all_eq_true.mpr fun v hv => bare8_bare (List.all_eq_true.mp h.bare v hv), h.len1, Nat.le_trans h.len4 (by decide)⟩
theorem stepV_flat {vs : List V} (h : StepV vs) : vs.all flatV = true := List.all_eq_true.mpr fun v hv => bare8_flat (List.all_eq_true.mp h.bare v hv)
end Cr
/-! a dict made turn by turn over any walk -/
namespace Cr
open PySem PySem.Spec PyProof.Rows L2 Evl
theorem dc_it {J : It} {n : Nat} {G : Hp → Prop} {Y : Nat → Hp → V → Hp → Prop} (w : Walk J n G Y) {g : TG} {tt : TT} {tk tv : TE} {vs : List Nat} {σ : L2.St} {D : Addr} {Q : Hp → Prop} {H0 : Hp} (Pv : Nat → Hp → Prop) (z0 : Pv 0 H0) (keep : ∀ i H, i ≤ n → Pv i H → G H)
    (turn : ∀ i x H H', i < n → Pv i H → Y i H x H' → g x (wipe σ vs) H' fun σ2 H2 => wipe σ2 vs = wipe σ vs ∧ tt σ2 H2 fun b H3 => if b = true then tk σ2 H3 fun y H4 => tv σ2 H4 fun z H5 => ∃ kvs k, y = kV k ∧ H5 D = some (.dK kvs) ∧ kvs.length < sizeLine ∧ Pv (i + 1) (upd H5 D (.dK (putK kvs k z))) else Pv (i + 1) H3)
    (fin : ∀ H, Pv n H → Q H) : ∃ W : Nat → Nat → Hp → Prop, (∃ m, W 0 m H0) ∧ ∀ i m H, W i m H → (J.stop i H ∧ Q H) ∨ (J.go i H ∧ ∃ Nx : Hp → Prop, (∀ H', Nx H' → ∃ m', m' < m ∧ W (i + 1) m' H') ∧ ∀ x H', J.yld i H x H' → g x (wipe σ vs) H' fun σ2 H2 => wipe σ2 vs = wipe σ vs ∧ tt σ2 H2 fun b H3 =>
      if b = true then tk σ2 H3 fun y H4 => tv σ2 H4 fun z H5 => ∃ kvs k, y = kV k ∧ H5 D = some (.dK kvs) ∧ kvs.length < sizeLine ∧ Nx (upd H5 D (.dK (putK kvs k z))) else Nx H3) := by
  refine ⟨fun i m H => i + m = n ∧ Pv i H, ⟨n, by omega, z0⟩, ?_⟩
  rintro i m H ⟨e, p⟩
  cases m with
  | zero =>
    have ei : i = n := by omega
    subst ei
    exact .inl ⟨w.stops H (keep i H (Nat.le_refl _) p), fin H p⟩
  | succ m =>
    have lt : i < n := by omega
    have gi := keep i H (by omega) p
    exact .inr ⟨w.goes i H lt gi, Pv (i + 1), fun H' p' => ⟨m, by omega, by omega, p'⟩, fun x H' y => turn i x H H' lt p (w.yields i H x H' lt gi y)⟩
end Cr
/-! libraries made of valid dicts -/
namespace Cr
open PySem PySem.Spec PyProof.Rows L2 Evl
abbrev sLPair : Stmt := topS 27
abbrev sLPairs : Stmt := topS 28
abbrev sLInit : Stmt := inClass (topS 29) 0
abbrev nLPair : List Str := ["key", "value", "names", "error"]
abbrev nLPairs : List Str := ["pairs", "names", "key", "value"]
abbrev nLInit : List Str := ["self", "modules", "name"]
theorem scLPair : FnScope nLPair ["key", "value", "names"] (defScope sLPair) := ⟨rfl, rfl, rfl, by decide +kernel, rfl, by decide +kernel, by decide +kernel⟩
theorem scLPairs : FnScope nLPairs ["pairs"] (defScope sLPairs) := ⟨rfl, rfl, rfl, by decide +kernel, rfl, by decide +kernel, by decide +kernel⟩
theorem scLInit : FnScope nLInit ["self", "modules"] (defScope sLInit) := ⟨rfl, rfl, rfl, by decide +kernel, rfl, by decide +kernel, by decide +kernel⟩
structure LbC (K : PySem.W.Frag) (mg : Str → Option Value) (C : Addr) : Prop where
  cl : Cls K C
  nI : NoAttr K C "initializers"
  at_ : mg "Library" = some (.ref C)
/-- the rows of a dict of programs -/
abbrev LKv (H : Hp) (kvs : List (Key × V)) (L : Lib) : Prop := DtKv H kvs (L.map fun r => (PyData.str r.1, progD r.2))
structure LbAt (C : Addr) (H : Hp) (x : Addr) (L : Lib) : Prop where
  ob : ∃ dx dd kvs, H x = some (.ins C dx [("initializers", .ref dd)]) ∧ H dd = some (.dK kvs) ∧ LKv H kvs L
theorem LbAt.ex {C x : Addr} {H H' : Hp} {L : Lib} (h : LbAt C H x L) (e : Ex H H') : LbAt C H' x L := by
  obtain ⟨dx, dd, kvs, h1, h2, h3⟩ := h.ob
  exact ⟨dx, dd, kvs, e _ _ h1, e _ _ h2, DtKv.ex e h3⟩
/-- a library made anew: none of its parts was known -/
structure LbNw (C : Addr) (H H' : Hp) (x : Addr) (L : Lib) : Prop where
  ob : ∃ dx dd kvs, H' x = some (.ins C dx [("initializers", .ref dd)]) ∧ H' dd = some (.dK kvs) ∧ LKv H' kvs L ∧ H dd = none ∧ ∀ e ∈ kvs, ∃ al, e.2 = .ref al ∧ H al = none
theorem LbNw.at_ {C x : Addr} {H H' : Hp} {L : Lib} (h : LbNw C H H' x L) : LbAt C H' x L := by
  obtain ⟨dx, dd, kvs, h1, h2, h3, _⟩ := h.ob
  exact ⟨dx, dd, kvs, h1, h2, h3⟩
theorem LbNw.ex {C x : Addr} {H H' H2 : Hp} {L : Lib} (h : LbNw C H H' x L) (e : Ex H' H2) : LbNw C H H2 x L := by
  obtain ⟨dx, dd, kvs, h1, h2, h3, h4⟩ := h.ob
  exact ⟨dx, dd, kvs, e _ _ h1, e _ _ h2, DtKv.ex e h3, h4⟩
theorem LbNw.back {C x : Addr} {H0 H H' : Hp} {L : Lib} (h : LbNw C H H' x L) (e : Ex H0 H) : LbNw C H0 H' x L := by
  obtain ⟨dx, dd, kvs, h1, h2, h3, h4, h5⟩ := h.ob
  exact ⟨dx, dd, kvs, h1, h2, h3, fresh_back e h4, fun y hy => by
    obtain ⟨al, e1, e2⟩ := h5 y hy
    exact ⟨al, e1, fresh_back e e2⟩⟩
theorem dtKv_inv {H : Hp} {kvs : List (Key × V)} {e : PyData × PyData} {es : List (PyData × PyData)} (h : DtKv H kvs (e :: es)) : ∃ k v kvs', kvs = (k, v) :: kvs' ∧ e.1 = kD k ∧ Dt H v e.2 ∧ DtKv H kvs' es := by
  cases h with
  | cons a b => exact ⟨_, _, _, rfl, rfl, a, b⟩
theorem kD_str {k : Key} {x : Str} (h : PyData.str x = kD k) : k = .inr x := by
  cases k with
  | inl i => exact nomatch h
  | inr y =>
    have h : PyData.str x = .str y := h
    cases h
    rfl
theorem lkv_inv {H : Hp} {kvs : List (Key × V)} {r : Str × Prog} {L : Lib} (h : LKv H kvs (r :: L)) : ∃ v kvs', kvs = (Sum.inr r.1, v) :: kvs' ∧ Dt H v (progD r.2) ∧ LKv H kvs' L := by
  obtain ⟨k, v, kvs', e1, e2, e3, e4⟩ := dtKv_inv h
  have e2 := kD_str e2
  subst e2
  exact ⟨v, kvs', e1, e3, e4⟩
theorem lkv_nil {H : Hp} {kvs : List (Key × V)} (h : LKv H kvs []) : kvs = [] := by
  have h : DtKv H kvs [] := h
  cases h
  rfl
theorem lkv_keys {H : Hp} : ∀ {L : Lib} {kvs : List (Key × V)}, LKv H kvs L → kvs.map (·.1) = L.map fun r => Sum.inr r.1
  | [], kvs, h => by rw [lkv_nil h]; rfl
  | r :: L, kvs, h => by
    obtain ⟨v, kvs', rfl, _, h⟩ := lkv_inv h
    rw [List.map_cons, List.map_cons, lkv_keys h]
theorem lkv_get {H : Hp} : ∀ {L : Lib} {kvs : List (Key × V)} {i : Nat} {r : Str × Prog}, LKv H kvs L → L[i]? = some r → ∃ v, kvs[i]? = some (Sum.inr r.1, v) ∧ Dt H v (progD r.2)
  | [], _, _, _, _, h => by simp at h
  | r :: L, kvs, 0, _, h, e => by
    obtain ⟨v, kvs', rfl, hv, _⟩ := lkv_inv h
    cases e
    exact ⟨v, rfl, hv⟩
  | r :: L, kvs, i + 1, r', h, e => by
    obtain ⟨v, kvs', rfl, _, h⟩ := lkv_inv h
    obtain ⟨u, a, b⟩ := lkv_get (i := i) h (show L[i]? = some r' from e)
    exact ⟨u, a, b⟩
theorem lkv_len {H : Hp} {L : Lib} {kvs : List (Key × V)} (h : LKv H kvs L) : kvs.length = L.length := by
  have z := congrArg List.length (lkv_keys h)
  rw [List.length_map, List.length_map] at z
  exact z
theorem lkv_val {H : Hp} (n : Str) : ∀ {L : Lib} {kvs : List (Key × V)}, LKv H kvs L → (rowL L n = none ∧ valV kvs (.inr n) = none) ∨ ∃ r v, rowL L n = some r ∧ valV kvs (.inr n) = some v ∧ Dt H v (progD r.2)
  | [], kvs, h => by rw [lkv_nil h]; exact .inl ⟨rfl, rfl⟩
  | r :: L, kvs, h => by
    obtain ⟨v, kvs', rfl, hv, h⟩ := lkv_inv h
    have ih := lkv_val n h
    unfold rowL valV at ih ⊢
    rw [List.find?_cons, List.find?_cons]
    by_cases e : r.1 = n
    · rw [decide_eq_true e]
      refine .inr ⟨r, v, rfl, ?_, hv⟩
      rw [show decide ((Sum.inr r.1 : Key) = Sum.inr n) = true from decide_eq_true (by rw [e])]
      rfl
    · rw [decide_eq_false e, show decide ((Sum.inr r.1 : Key) = Sum.inr n) = false from decide_eq_false fun z => e (Sum.inr.inj z)]
      exact ih
theorem lkv_snoc {H : Hp} {n : Str} {v : V} {p : Prog} (hv : Dt H v (progD p)) : ∀ {L : Lib} {kvs : List (Key × V)}, LKv H kvs L → LKv H (kvs ++ [(Sum.inr n, v)]) (L ++ [(n, p)])
  | [], kvs, h => by
    rw [lkv_nil h]
    exact .cons (k := Sum.inr n) hv .nil
  | r :: L, kvs, h => by
    obtain ⟨u, kvs', rfl, hu, h⟩ := lkv_inv h
    exact .cons (k := Sum.inr r.1) hu (lkv_snoc hv h)
/-- a pair of a valid library -/
def spLPair : Sp := fun vs H Q _ => ∃ (n : Str) (v : V) (p : Prog) (b : Addr) (ns : List Str), vs = [.str n, v, .ref b] ∧ isNameS n = true ∧ Dt H v (progD p) ∧ ProgV p ∧ H b = some (.lst (ns.map V.str)) ∧ (∀ ds ∈ p, okMod ns ds = true) ∧ ∀ H', Ex H H' → Q .non H'
def PairsAt (H : Hp) (ts : List Addr) (kvs : List (Key × V)) : Prop := Paired (fun (t : Addr) (q : Key × V) => H t = some (.tup [kV q.1, q.2])) ts kvs
def spLPairs : Sp := fun vs H Q _ => ∃ (a : Addr) (ts : List Addr) (kvs : List (Key × V)) (L : Lib), vs = [.ref a] ∧ H a = some (.lst (ts.map V.ref)) ∧ PairsAt H ts kvs ∧ LKv H kvs L ∧ LibOk L ∧ ∀ H', Ex H H' → Q .non H'
def spLInit (C : Addr) : Sp := fun vs H Q _ => ∃ x dx m dm kvs L, vs = [.ref x, m] ∧ H x = some (.ins C dx []) ∧ m = .ref dm ∧ H dm = some (.dK kvs) ∧ LKv H kvs L ∧ LibOk L ∧ ∀ H', LbNw C H H' x (srtL L) → (∀ b o, b ≠ x → H b = some o → H' b = some o) → Q .non H'
theorem pairs_get {H : Hp} : ∀ {ts : List Addr} {kvs : List (Key × V)} {i : Nat} {q : Key × V}, PairsAt H ts kvs → kvs[i]? = some q → ∃ t, ts[i]? = some t ∧ H t = some (.tup [kV q.1, q.2])
  | _, _, _, _, .nil, h => by simp at h
  | _, _, 0, _, .cons a b, h => by cases h; exact ⟨_, rfl, a⟩
  | _, _, i + 1, q, .cons a b, h => by
    obtain ⟨t, h1, h2⟩ := pairs_get (i := i) (q := q) (show PairsAt H _ _ from b) h
    exact ⟨t, h1, h2⟩
theorem PairsAt.ex {H H' : Hp} (e : Ex H H') : ∀ {ts : List Addr} {kvs : List (Key × V)}, PairsAt H ts kvs → PairsAt H' ts kvs
  | _, _, .nil => .nil
  | _, _, .cons a b => .cons (e _ _ a) (PairsAt.ex e b)
section
variable {P : Program} {w : World} {K : PySem.W.Frag} {mg : Str → Option Value} {base : Heap}
theorem ok_lpair {f CP : Addr} {fd : FuncData} {k : Nat} (F : Fun K "check_pair" "check_pair" sLPair f fd) (h1 : HasO P w K mg base k "is_name" ["value"] (spD isName)) (h2 : HasE P w K mg base k "check_steps" ["value", "is_main", "modules"] (spSteps CP)) : FnOk P w K mg base CX0 (k + 1) f fd ["key", "value", "names"] spLPair := by
  obtain ⟨f1, d1, G1, b1, k1, g1⟩ := h1.ex
  obtain ⟨f2, d2, G2, b2, k2, g2⟩ := h2.ex
  refine F.ok scLPair (fun vs H Q E h => by obtain ⟨_, _, _, _, _, rfl, _⟩ := h; rfl) (fun cdv A outer s H vs Q E hr h => ?_)
  obtain ⟨n, v, p, b, ns, rfl, hn, hv, hpv, hb, hm, q⟩ := h
  refine ⟨_, pss_cons (ps_if (pt_not (pt_val (pe_call (E := E0) G1 hr (by rfl) g1 k1 b1 .nil pass0 (pa_cons (pv 0) pa_nil)))) pss_dead' pss_nil)
    (pss_one (ps_try_thru0 (pss_one (ps_expr (pe_call (E := E0) G2 hr (by rfl) g2 k2 b2 .nil passL (pa_cons (pv 1) (pa_cons pe_bl (pa_cons (pv 2) pa_nil)))))))), ?_⟩
  have nm : isName (.str n) = true := hn
  refine q_when (b := false) (et_is (et_not (et_B (ev_call (ea_cons (ev_var rfl) ea_nil) (spv_D (.str n) (nm_sm hn))))) (by rw [nm]; rfl)) (fun z => nomatch z) (fun _ H1 e1 => ?_)
  refine ⟨v, rfl, .ref b, rfl, v, progD p, false, .ref b, some (ns.map V.str), rfl, Dt.ex e1 hv, prog_sm hpv, ⟨b, rfl, e1 _ _ hb, flat_strs ns⟩, fun _ H2 e2 => q H2 (e1.trans e2), fun i hi => ?_⟩
  rw [due_prog hpv hm] at hi
  cases hi
theorem ok_lpairs {f : Addr} {fd : FuncData} {k : Nat} (F : Fun K "check_pairs" "check_pairs" sLPairs f fd) (B : Blt mg) {tM : Tok} (gM : mg "MOST_MODULES" = some (.int 40 tM)) (h1 : HasO P w K mg base k "is_name" ["value"] (spD isName)) (h2 : HasO P w K mg base k "check_pair" ["key", "value", "names"] spLPair) : FnOk P w K mg base CX0 (k + 1) f fd ["pairs"] spLPairs := by
  obtain ⟨f1, d1, G1, b1, k1, g1⟩ := h1.ex
  obtain ⟨f2, d2, G2, b2, k2, g2⟩ := h2.ex
  refine F.ok scLPairs (fun vs H Q E h => by obtain ⟨_, _, _, _, rfl, _⟩ := h; rfl) (fun cdv A outer s H vs Q E hr h => ?_)
  obtain ⟨a, ts, kvs, L, rfl, ha, hts, hL, ok, q⟩ := h
  refine ⟨_, pss_cons (ps_if (pt_not (pt_chain op_le op_le pe_int (pe_callB call_len_seq (by rfl) B.len bLen (pa_cons (pv 0) pa_nil)) (pe_glob (v := .int 40) (by rfl) gM ⟨_, rfl⟩))) pss_dead' pss_nil)
    (pss_cons (ps_setLc (i := 1) (own := [("key", 2), ("value", 3)]) (g := gTup K 2 (gCons (gName 2) (gCons (gName 3) gNil))) (tt := tB (tCall (spD isName) [] E0 (tCons (tVar 2) tNil))) (te := tVar 2) rfl scLPairs.nd rfl rfl (sw_true rfl rfl rfl (by decide +kernel)) (pi_list (pv 0)) (blkOk_by (own := [("key", 2), ("value", 3)]) (N := nLPairs) (sc := defScope sLPairs) (by decide +kernel))
        (fun _ _ _ _ _ => by exact pg_tup rfl (pgs_cons (pg_name (i := 2) scLPairs.nd rfl (Or.inl rfl)) (pgs_cons (pg_name (i := 3) scLPairs.nd rfl (Or.inl rfl)) pgs_nil))) (fun _ _ _ _ _ => by exact pts_one (pt_val (pe_call (E := E0) G1 hr (by rfl) g1 k1 b1 .nil pass0 (pa_cons (pv 2) pa_nil))))
        (fun _ _ _ _ _ => pv 2))
    (pss_one (ps_for PassesOwn.never rfl (pi_list (pv 0)) (pg_tup rfl (pgs_cons (pg_name (i := 2) scLPairs.nd rfl (.inl rfl)) (pgs_cons (pg_name (i := 3) scLPairs.nd rfl (.inl rfl)) pgs_nil)))
      (pss_one (ps_expr (pe_call (E := E0) G2 hr (by rfl) g2 k2 b2 .nil pass0 (pa_cons (pv 2) (pa_cons (pv 3) (pa_cons (pv 1) pa_nil))))))))), ?_⟩
  have lk := lkv_len hL
  have lt : ts.length = kvs.length := Paired.length hts
  have l1 := ok.v.l1
  have l40 := ok.v.l40
  have lx : (ts.map V.ref).length = L.length := by rw [List.length_map, lt, lk]
  refine q_when (b := false) (et_is (et_not (et_test (ev_chain ev_c (ev_cb (ea_cons (ev_var rfl) ea_nil) (rc_lenL (sq_of ha))) rv_I0 (fun _ => ev_c) fun _ => rv_I0))) (by rw [lx, decide_eq_true (show (1 : Int) ≤ (L.length : Int) by omega), decide_eq_true (show (L.length : Int) ≤ 40 by omega)]; rfl)) (fun z => nomatch z) (fun _ H1 e1 => ?_)
  have row : ∀ {i : Nat} (hi : i < L.length), ∃ t v, (ts.map V.ref)[i]? = some (.ref t) ∧ H t = some (.tup [.str L[i].1, v]) ∧ Dt H v (progD L[i].2) := fun {i} hi => by
    obtain ⟨v, h1, h2⟩ := lkv_get hL (List.getElem?_eq_getElem hi)
    obtain ⟨t, h3, h4⟩ := pairs_get hts h1
    exact ⟨t, v, by rw [List.getElem?_map, h3]; rfl, h4, h2⟩
  have lc := el_lcW (wi := iList K (tVar 0)) (g := gTup K 2 (gCons (gName 2) (gCons (gName 3) gNil))) (tt := tB (tCall (spD isName) [] E0 (tCons (tVar 2) tNil))) (te := tVar 2) (vs := [2, 3])
    (σ := [some (.ref a), none, none, none]) (H := H1) (n := (ts.map V.ref).length) (Y := YAt (ts.map V.ref)) (fun _ => true) (fun i => .str ((L.map (·.1)).getD i ("" : Str))) (by omega)
    (fun H2 e2 R r => ⟨.ref a, rfl, a, rfl, ⟨_, sq_of ((e1.trans e2) _ _ ha)⟩, r H2 _ _ (walk_list (K := K) (a := a) (xs := ts.map V.ref)) (fun _ _ e z => ex_l e z) (Ex.refl H2) (sq_of ((e1.trans e2) _ _ ha))⟩)
    (fun i y H2 H3 e2 hi hy => by
      obtain ⟨rfl, hy⟩ := hy
      have hi : i < L.length := by omega
      obtain ⟨t, v, h1, h2, h3⟩ := row hi
      rw [h1] at hy
      cases hy
      have nm := ok.v.nm _ (List.getElem_mem hi)
      have nm' : isName (.str L[i].1) = true := nm
      refine ⟨Ex.refl _, [some (.ref a), none, some (.str L[i].1), some v], rfl, fun R r => pair_go ((e1.trans e2) _ _ h2) r, et_is (et_B (ev_call (ea_cons (ev_var rfl) ea_nil) (spv_D (.str L[i].1) (nm_sm nm)))) nm', fun _ => ?_⟩
      have e : (L.map (·.1)).getD i ("" : Str) = L[i].1 := by rw [getD_at _ (by rw [List.length_map]; exact hi), List.getElem_map]
      rw [e]
      exact ev_var rfl)
  have eg : given (ts.map V.ref).length (fun _ => true) (fun i => V.str ((L.map (·.1)).getD i ("" : Str))) = (L.map (·.1)).map V.str := by
    rw [given_all, lx]
    refine List.ext_getElem? fun i => ?_
    by_cases hi : i < L.length
    · rw [List.getElem?_map, List.getElem?_range hi, List.getElem?_map, List.getElem?_eq_getElem (show i < (L.map (·.1)).length by rw [List.length_map]; exact hi)]
      show some (V.str _) = some (V.str _)
      rw [getD_at _ (show i < (L.map (·.1)).length by rw [List.length_map]; exact hi)]
    · rw [List.getElem?_eq_none (by rw [List.length_map, List.length_range]; omega), List.getElem?_eq_none (by rw [List.length_map, List.length_map]; omega)]
  rw [eg] at lc
  refine q_asgL lc fun N H2 zN e2 hN => ?_
  have e12 := e1.trans e2
  refine ⟨.ref a, rfl, a, rfl, ⟨_, sq_of (e12 _ _ ha)⟩, for_list (fun i σ H' => (∃ y2 y3, σ = [some (.ref a), some (.ref N), y2, y3]) ∧ Ex H2 H') ⟨⟨_, _, rfl⟩, Ex.refl H2⟩ (fun i σ H' _ h => sq_of (h.2 _ _ (e12 _ _ ha))) (fun i x σ H' hi hP => ?_) (fun σ H' hP => ?_)⟩
  · obtain ⟨⟨y2, y3, rfl⟩, e3⟩ := hP
    have hil : i < L.length := by
      have := (List.getElem?_eq_some_iff.mp hi).1
      omega
    obtain ⟨t, v, h1, h2, h3⟩ := row hil
    rw [h1] at hi
    cases hi
    have e123 := e12.trans e3
    refine pair_go (e123 _ _ h2) ?_
    exact ⟨.str L[i].1, rfl, v, rfl, .ref N, rfl, L[i].1, v, L[i].2, N, L.map (·.1), rfl, ok.v.nm _ (List.getElem_mem hil), Dt.ex e123 h3, ok.v.ok _ (List.getElem_mem hil), e3 _ _ hN, ok.mi _ (List.getElem_mem hil), fun H4 e4 => ⟨⟨_, _, rfl⟩, e3.trans e4⟩⟩
  · obtain ⟨⟨y2, y3, rfl⟩, e3⟩ := hP
    exact q H' (e12.trans e3)
end
end Cr
/-! except with two classes; a caught error handed to a def -/
namespace Cr
open PySem PySem.Spec PyProof.Rows L2 Evl
/-! ### a def that is handed the error that is handled -/
/-- what it is asked, by the error's class, its dict, its place -/
abbrev SpE := Value → Option Addr → Addr → List V → Hp → VK → Prop
section
variable {X : Cx} {k : Nat} {f a : Addr} {oe : Obj} {cls : Value} {d : Option Addr} {fd : FuncData} {ps : List Str} {sp : SpE} {x : Str} {q pos : Pos} {e : Expr} {es : List Expr} {t : TA}
/-- an attribute of such an error -/
theorem pe_xp {C : Addr} {te : TE} {n : Str} (T : XfC X.K C) (hno : PySem.W.findIn X.K (.ref C) n = some none) (hp : (a, oe) ∈ X.pn)
    (hz : Zc cls d oe) (hf : ∃ vs, oe.data = .fields vs) (he : PE X e te) (hb : attributeBase e n X.env (eval e X.env) = eval e X.env := by rfl) :
    PE X (.Attribute e n pos) (tXf a cls d C n te) := by
  refine ⟨fun pins s σ H Q I h => ?_⟩
  refine attr_of hb (thn (he.run pins s σ H _ I h) fun u s1 hh => ?_)
  obtain ⟨x, H1, I1, rx, ex, ec, dd, fs, v, ed, ea, l, q⟩ := hh
  subst ex
  obtain rfl : u = Value.ref a := rx
  subst ec
  subst ed
  obtain ⟨ha, _⟩ := I1.pin (a, oe) (List.mem_append_left _ hp)
  obtain ⟨vs, hd⟩ := hf
  have hx : ObjOk X.prog X.w H1 s1.heap dd (.xd fs) := I1.hok dd _ ea
  obtain ⟨mA, hns, hr⟩ := hx
  obtain ⟨od, ho, hl⟩ := lookIn_ns hns
  obtain ⟨u, hu, ru⟩ := RelO.some_of (v := v) (o := mA n) (by rw [← l]; exact hr n)
  have J : PySem.W.InstAt s1.heap a oe C (some od) := ⟨ha, hz.1, by unfold PySem.W.notCls; rw [hd] <;> rfl, by rw [hz.2]; exact ho⟩
  exact HandSPX.exc_get I1.kIn J T.ga T.gg T.exC (PySem.W.findObj_own T.hdC hno rfl (by rw [hl, hu])) (handed_of ru) ⟨v, H1, I1.tok _, ru, q⟩
end
end Cr
/-! == and in, of data of any kind -/
namespace Cr
open PySem PySem.Spec PyProof.Rows L2 Evl
section
variable {X : Cx}
def rEqDt : R2 := fun x y H Q => ∃ d e, Dt H x d ∧ Dt H y e ∧ SeqAt.shaped d = true ∧ SeqAt.shaped e = true ∧ Q (.bl (PyData.eqv d e)) H
theorem op_eqDt (hu : X.A.units + 64 < cLine) : OpR X (compareOp .Eq) rEqDt := by
  intro pins s σ H x y v u Q I rx ry h
  obtain ⟨d, e, hd, he, sd, se, q⟩ := h
  obtain ⟨as, r1⟩ := (Dt.shown I hd rx).1
  obtain ⟨bs, r2⟩ := (Dt.shown I he ry).1
  exact SeqAt.compareEq_shaped r1 r2 sd se hu ⟨.bl _, H, I, rfl, q⟩
end
end Cr
/-! o.m(k = v): a method called by keywords alone -/
/-! Cr: == and != of an own class with its own ==, from both sides -/
namespace Cr
open PySem PySem.Spec PyProof.Rows L2 Evl
section
variable {M : Model} {prog : Program} {w : World} {A : Around} {E : Value → Shared → Prop} {s : Shared} {K : PySem.W.Frag} {x C f : Addr} {ox : Obj} {od : Option Obj} {y : Value}
theorem tryEq {Q : Option Value → Shared → Prop} (X : K.In s.heap) (I : PySem.W.InstAt s.heap x ox C od) (hs : PySem.W.findIn K (.ref C) "__eq__" = some (some (.ref f))) (hf : PySem.W.isFn K (.ref f) = true)
    (h : wpAny (model prog w) A (call (.ref f) [.ref x, y]) (fun v s' => ∃ b, v = .bool b ∧ Q (some (.bool b)) s') E s) : wpAny (model prog w) A (tryCompare (.ref x) "__eq__" y) Q E s := by
  unfold tryCompare
  refine wpAny_bind (PySem.W.ifBound_K X I hs hf (wpAny_mono h (fun v s' hv => ?_) fun _ _ e => e))
  obtain ⟨b, rfl, hq⟩ := hv
  exact wpAny_pure hq
theorem ifBoundNe {args : List Value} {Q : Option Value → Shared → Prop} (X : K.In s.heap) (I : PySem.W.InstAt s.heap x ox C od) (hs : PySem.W.findIn K (.ref C) "__ne__" = some (some (.builtin "object.__ne__")))
    (h : wpAny M A (call (.builtin "object.__ne__") (.ref x :: args)) (fun v => Q (some v)) E s) : wpAny M A (callSpecialIfBound? (.ref x) "__ne__" args) Q E s := by
  simp only [callSpecialIfBound?, bindSpecialIfBound?]
  refine wpAny_holding (wpAny_bind (wpAny_bind (wpAny_bind (I.type.here ((PySem.W.looks_findIn X hs).here ?_)))))
  refine wpAny_bind (wpAny_askSetting (wpAny_ite ?_))
  have fin : wpAny M A (call (.builtin "object.__ne__") ([.ref x] ++ args) >>= fun v => pure (some v)) Q E s := wpAny_bind (wpAny_mono h (fun v s' h' => wpAny_pure h') fun _ _ h' => h')
  split
  · exact wpAny_bind (wpAny_of_eq (F.cmp_object.ne.bind _) (wpAny_pure (by exact fin)))
  · exact wpAny_tryCatch (wpAny_bind (wpAny_of_eq (F.cmp_object.ne.bind _) (wpAny_pure (by exact fin))))
theorem entryNe {Q : Fin → Shared → Prop} (hu : A.units < cLine) (X : K.In s.heap) (I : PySem.W.InstAt s.heap x ox C od) (hs : PySem.W.findIn K (.ref C) "__eq__" = some (some (.ref f))) (hf : PySem.W.isFn K (.ref f) = true)
    (h : wpAny (model prog w) A (call (.ref f) [.ref x, y]) (fun v s' => ∃ b, v = .bool b ∧ Q (.done (.ret (.bool (!b)))) s') E s) : wpAny (model prog w) A (Builtin.«object.__ne__» ⟨[.ref x, y], []⟩) Q E s := by
  unfold Builtin.«object.__ne__»
  repeat (first
    | with_reducible refine wpAny_cRoomFor hu ?_
    | (refine wpAny_bind (m := callSpecialIfBound? (.ref x) (Str.ofString "__eq__") [y])
        (PySem.W.ifBound_K X I hs hf (wpAny_mono h (fun r s' hr => by
          obtain ⟨b, rfl, hq⟩ := hr
          repeat (first | exact hq | exact wpAny_pure hq | exact wpAny_truthy_bool hq | (refine wpAny_bind (m := truthy (.bool _)) (wpAny_truthy_bool ?_)) | wp_step)) fun _ _ e => e)))
    | wp_step)
theorem tryNe {Q : Option Value → Shared → Prop} (hu : A.units + 1 < cLine) (X : K.In s.heap) (I : PySem.W.InstAt s.heap x ox C od) (hs : PySem.W.findIn K (.ref C) "__eq__" = some (some (.ref f))) (hf : PySem.W.isFn K (.ref f) = true)
    (hn : PySem.W.findIn K (.ref C) "__ne__" = some (some (.builtin "object.__ne__"))) (hm : PySem.W.mroIn K C (.type "object") = some true)
    (h : wpAny (model prog w) A.in1 (call (.ref f) [.ref x, y]) (fun v s' => ∃ b, v = .bool b ∧ Q (some (.bool (!b))) s') E s) : wpAny (model prog w) A (tryCompare (.ref x) "__ne__" y) Q E s := by
  unfold tryCompare
  refine wpAny_bind (ifBoundNe X I hn (wpAny_call (codeAny_call_builtin F.cmp_object.ne.plain F.cmpEntry_ne (PySem.W.check_slot F.cmpKind_ne F.cmpSplit_ne (I.type.andThen (PySem.W.looks_mroIn X hm)) (F.cmpArgs_ne _ _)
    (entryNe (A := A.in1) hu X I hs hf (wpAny_mono h (fun v s' hv => ?_) fun _ _ e => e))))))
  obtain ⟨b, rfl, hq⟩ := hv
  exact ⟨b, rfl, wpAny_pure hq⟩
end
end Cr
/-! Cr: the comparison itself, own object at the left or at the right -/
namespace Cr
open PySem PySem.Spec PyProof.Rows L2 Evl
section
variable {M : Model} {prog : Program} {w : World} {A : Around} {E : Value → Shared → Prop} {s : Shared} {K : PySem.W.Frag} {x C f : Addr} {ox : Obj} {od : Option Obj} {y tb : Value} {T : String}
theorem rcNeL {Q : Value → Shared → Prop} (hu : A.units + 1 < cLine) (X : K.In s.heap) (I : PySem.W.InstAt s.heap x ox C od) (hb : PySem.W.Looks (model prog w) s.heap (typeOf y) tb) (hnf : PySem.W.notFirst K C tb = true)
    (hs : PySem.W.findIn K (.ref C) "__eq__" = some (some (.ref f))) (hf : PySem.W.isFn K (.ref f) = true) (hn : PySem.W.findIn K (.ref C) "__ne__" = some (some (.builtin "object.__ne__"))) (hm : PySem.W.mroIn K C (.type "object") = some true)
    (h : wpAny (model prog w) A.in1 (call (.ref f) [.ref x, y]) (fun v s' => ∃ b, v = .bool b ∧ Q (.bool (!b)) s') E s) : wpAny (model prog w) A (richCompare .NotEq (.ref x) y) Q E s := by
  have one : wpAny (model prog w) A (tryCompare (.ref x) "__ne__" y) (fun r s' => ∃ v, r = some v ∧ Q v s') E s :=
    tryNe hu X I hs hf hn hm (wpAny_mono h (fun v s' hv => by obtain ⟨b, rfl, hq⟩ := hv; exact ⟨b, rfl, _, rfl, hq⟩) fun _ _ e => e)
  unfold richCompare
  simp only [oneThing_ref]
  refine wpAny_holding (wpAny_bind (wpAny_cRoomFor (by omega) ?_))
  refine wpAny_bind (I.type.here (wpAny_bind (hb.here ?_)))
  split
  · rename_i q
    have e : PySem.W.subIn K tb (.ref C) = some false := by
      rcases Bool.or_eq_true_iff.mp hnf with e | e
      · rw [beq_iff_eq.mp e] at q; simp at q
      · exact beq_iff_eq.mp e
    refine wpAny_bind ((PySem.W.looks_subIn X e).here ?_)
    simp only [Bool.false_eq_true, if_false]
    refine wpAny_bind (wpAny_mono one (fun r s' z => ?_) fun _ _ e => e)
    obtain ⟨v, rfl, hq⟩ := z
    exact wpAny_pure hq
  · refine wpAny_bind (wpAny_pure ?_)
    simp only [Bool.false_eq_true, if_false]
    refine wpAny_bind (wpAny_mono one (fun r s' z => ?_) fun _ _ e => e)
    obtain ⟨v, rfl, hq⟩ := z
    exact wpAny_pure hq
theorem rcEqR {Q : Value → Shared → Prop} (hu : A.units < cLine) (X : K.In s.heap) (I : PySem.W.InstAt s.heap x ox C od) (hT : s.TypeIs y T) (hsub : PySem.W.subIn K (.ref C) (.type T) = some false)
    (hd : wpAny (model prog w) A (tryCompare y "__eq__" (.ref x)) (fun r s' => r = none ∧ s' = s) E s)
    (hs : PySem.W.findIn K (.ref C) "__eq__" = some (some (.ref f))) (hf : PySem.W.isFn K (.ref f) = true)
    (h : wpAny (model prog w) A (call (.ref f) [.ref x, y]) (fun v s' => ∃ b, v = .bool b ∧ Q (.bool b) s') E s) : wpAny (model prog w) A (richCompare .Eq y (.ref x)) Q E s := by
  have one : wpAny (model prog w) A (tryCompare (.ref x) "__eq__" y) (fun r s' => ∃ v, r = some v ∧ Q v s') E s :=
    tryEq X I hs hf (wpAny_mono h (fun v s' hv => by obtain ⟨b, rfl, hq⟩ := hv; exact ⟨b, rfl, _, rfl, hq⟩) fun _ _ e => e)
  simp only [richCompare, cmpInfo, hT.oneThing_none]
  refine wpAny_holding (wpAny_bind (wpAny_cRoomFor hu ?_))
  refine wpAny_bind (wpAny_typeOf hT ?_)
  refine wpAny_bind (I.type.here ?_)
  split
  · refine wpAny_bind ((PySem.W.looks_subIn X hsub).here ?_)
    simp only [Bool.false_eq_true, if_false, Bool.not_false, if_true]
    refine wpAny_bind (m := tryCompare y _ (.ref x)) (wpAny_mono hd (fun r s1 z => ?_) fun _ _ e => e)
    obtain ⟨rfl, rfl⟩ := z
    refine wpAny_bind (m := tryCompare (.ref x) _ y) (wpAny_mono one (fun r s2 z => ?_) fun _ _ e => e)
    obtain ⟨v, rfl, hq⟩ := z
    exact wpAny_pure hq
  · rename_i q
    exact absurd (by simp) q
theorem rcNeR {Q : Value → Shared → Prop} (hu : A.units + 1 < cLine) (X : K.In s.heap) (I : PySem.W.InstAt s.heap x ox C od) (hT : s.TypeIs y T) (hsub : PySem.W.subIn K (.ref C) (.type T) = some false)
    (hd : wpAny (model prog w) A (tryCompare y "__ne__" (.ref x)) (fun r s' => r = none ∧ s' = s) E s)
    (hs : PySem.W.findIn K (.ref C) "__eq__" = some (some (.ref f))) (hf : PySem.W.isFn K (.ref f) = true) (hn : PySem.W.findIn K (.ref C) "__ne__" = some (some (.builtin "object.__ne__"))) (hm : PySem.W.mroIn K C (.type "object") = some true)
    (h : wpAny (model prog w) A.in1 (call (.ref f) [.ref x, y]) (fun v s' => ∃ b, v = .bool b ∧ Q (.bool (!b)) s') E s) : wpAny (model prog w) A (richCompare .NotEq y (.ref x)) Q E s := by
  have one : wpAny (model prog w) A (tryCompare (.ref x) "__ne__" y) (fun r s' => ∃ v, r = some v ∧ Q v s') E s :=
    tryNe hu X I hs hf hn hm (wpAny_mono h (fun v s' hv => by obtain ⟨b, rfl, hq⟩ := hv; exact ⟨b, rfl, _, rfl, hq⟩) fun _ _ e => e)
  simp only [richCompare, cmpInfo, hT.oneThing_none]
  refine wpAny_holding (wpAny_bind (wpAny_cRoomFor (by omega) ?_))
  refine wpAny_bind (wpAny_typeOf hT ?_)
  refine wpAny_bind (I.type.here ?_)
  split
  · refine wpAny_bind ((PySem.W.looks_subIn X hsub).here ?_)
    simp only [Bool.false_eq_true, if_false, Bool.not_false, if_true]
    refine wpAny_bind (m := tryCompare y _ (.ref x)) (wpAny_mono hd (fun r s1 z => ?_) fun _ _ e => e)
    obtain ⟨rfl, rfl⟩ := z
    refine wpAny_bind (m := tryCompare (.ref x) _ y) (wpAny_mono one (fun r s2 z => ?_) fun _ _ e => e)
    obtain ⟨v, rfl, hq⟩ := z
    exact wpAny_pure hq
  · rename_i q
    exact absurd (by simp) q
/-! ### the built-in side declines -/
abbrev Decl (prog : Program) (w : World) (A : Around) (E : Value → Shared → Prop) (s : Shared) (y : Value) (nm : Str) (x : Addr) : Prop := wpAny (model prog w) A (tryCompare y nm (.ref x)) (fun r s' => r = none ∧ s' = s) E s
theorem declNone_eq : Decl prog w A E s .none "__eq__" x := wpAny_tryCompare_declines (show s.TypeIs .none "NoneType" from rfl) F.slot_NoneType_eq_refl (call_gives F.slot_NoneType_eq_refl rfl F.entry_NoneType_eq (F.args_NoneType_eq_2 _ _) (SeqAt.NoneType___eq___none_ref_0 x) ⟨rfl, rfl, rfl⟩)
theorem declNone_ne : Decl prog w A E s .none "__ne__" x := wpAny_tryCompare_declines (show s.TypeIs .none "NoneType" from rfl) F.slot_NoneType_ne (call_gives F.slot_NoneType_ne rfl F.entry_NoneType_ne (F.args_NoneType_ne_2 _ _) (SeqAt.NoneType___ne___none_ref_0 x) ⟨rfl, rfl, rfl⟩)
theorem isInstNo {R : Bool → Shared → Prop} (X : K.In s.heap) (I : PySem.W.InstAt s.heap x ox C od) (hsub : PySem.W.subIn K (.ref C) (.type T) = some false) (h : R false s) : wpAny M A (isInstance (.ref x) (.type T)) R E s := by
  unfold isInstance
  exact wpAny_bind (I.type.here ((PySem.W.looks_subIn X hsub).here h))
variable {l : Addr}
theorem declInt_eq {i : Int} {t : Tok} {dx : Addr} (hx : s.heap.get? x = some (PySem.W.instObj C dx)) : Decl prog w A E s (.int i t) "__eq__" x := by
  refine wpAny_tryCompare_declines (typeIs_int s i t) F.slot_int_eq (wpAny_call_entry F.slot_int_eq (typeIs_int s i t) F.entry_int_eq ?_ (F.args_int_eq_2 _ _))
  show wpAny _ _ (Builtin.Int.intBinary "__eq__" (fun x y => ret (.bool (x == y))) false ⟨[.int i t, .ref x], []⟩) _ _ s
  unfold Builtin.Int.intBinary
  repeat (first | with_reducible refine wpAny_load hx ?_ | wp_step)
  exact ⟨_, rfl, rfl, rfl, rfl⟩
theorem declStr_eq {z : Str} {t : Tok} {dx : Addr} (hx : s.heap.get? x = some (PySem.W.instObj C dx)) : Decl prog w A E s (.str z t) "__eq__" x := by
  refine wpAny_tryCompare_declines (typeIs_str s z t) F.slot_str_eq (wpAny_call_entry F.slot_str_eq (typeIs_str s z t) F.entry_str_eq ?_ (F.args_str_eq_2 _ _))
  show wpAny _ _ (Builtin.Str.strCompare "__eq__" _ ⟨[.str z t, .ref x], []⟩) _ _ s
  unfold Builtin.Str.strCompare Builtin.Str.strSlot
  repeat (first | with_reducible refine wpAny_load hx ?_ | wp_step)
  exact ⟨_, rfl, rfl, rfl, rfl⟩
theorem declLst_eq (hT : s.TypeIs (.ref l) "list") (X : K.In s.heap) (I : PySem.W.InstAt s.heap x ox C od) (hsub : PySem.W.subIn K (.ref C) (.type "list") = some false) : Decl prog w A E s (.ref l) "__eq__" x := by
  refine wpAny_tryCompare_declines hT F.slot_list_eq (wpAny_call_entry F.slot_list_eq hT F.entry_list_eq ?_ (F.args_list_eq_2 _ _))
  show wpAny _ _ (slotArgs "__eq__" 1 ⟨[.ref l, .ref x], []⟩ >>= _) _ _ s
  repeat (first | with_reducible refine isInstNo X I hsub ?_ | wp_step)
  exact ⟨_, rfl, rfl, rfl, rfl⟩
theorem declTup_eq (hT : s.TypeIs (.ref l) "tuple") (X : K.In s.heap) (I : PySem.W.InstAt s.heap x ox C od) (hsub : PySem.W.subIn K (.ref C) (.type "tuple") = some false) : Decl prog w A E s (.ref l) "__eq__" x := by
  refine wpAny_tryCompare_declines hT F.slot_tuple_eq (wpAny_call_entry F.slot_tuple_eq hT F.entry_tuple_eq ?_ (F.args_tuple_eq_2 _ _))
  show wpAny _ _ (slotArgs "__eq__" 1 ⟨[.ref l, .ref x], []⟩ >>= _) _ _ s
  repeat (first | with_reducible refine isInstNo X I hsub ?_ | wp_step)
  exact ⟨_, rfl, rfl, rfl, rfl⟩
theorem declDct_eq (hT : s.TypeIs (.ref l) "dict") (X : K.In s.heap) (I : PySem.W.InstAt s.heap x ox C od) (hsub : PySem.W.subIn K (.ref C) (.type "dict") = some false) : Decl prog w A E s (.ref l) "__eq__" x := by
  refine wpAny_tryCompare_declines hT F.slot_dict_eq (wpAny_call_entry F.slot_dict_eq hT F.entry_dict_eq ?_ (F.args_dict_eq_2 _ _))
  show wpAny _ _ (Builtin.Dict.dictSlotArgs "__eq__" ⟨[.ref l, .ref x], []⟩ >>= _) _ _ s
  refine wpAny_bind ?_
  unfold Builtin.Dict.dictSlotArgs
  refine wpAny_bind (wpAny_notOrdered_dict hT ?_)
  repeat (first | with_reducible refine isInstNo X I hsub ?_ | wp_step)
  exact ⟨_, rfl, rfl, rfl, rfl⟩
theorem declInt_ne {i : Int} {t : Tok} {dx : Addr} (hx : s.heap.get? x = some (PySem.W.instObj C dx)) : Decl prog w A E s (.int i t) "__ne__" x := by
  refine wpAny_tryCompare_declines (typeIs_int s i t) F.slot_int_ne (wpAny_call_entry F.slot_int_ne (typeIs_int s i t) F.entry_int_ne ?_ (F.args_int_ne_2 _ _))
  show wpAny _ _ (Builtin.Int.intBinary "__ne__" (fun x y => ret (.bool (x != y))) false ⟨[.int i t, .ref x], []⟩) _ _ s
  unfold Builtin.Int.intBinary
  repeat (first | with_reducible refine wpAny_load hx ?_ | wp_step)
  exact ⟨_, rfl, rfl, rfl, rfl⟩
theorem declStr_ne {z : Str} {t : Tok} {dx : Addr} (hx : s.heap.get? x = some (PySem.W.instObj C dx)) : Decl prog w A E s (.str z t) "__ne__" x := by
  refine wpAny_tryCompare_declines (typeIs_str s z t) F.slot_str_ne (wpAny_call_entry F.slot_str_ne (typeIs_str s z t) F.entry_str_ne ?_ (F.args_str_ne_2 _ _))
  show wpAny _ _ (Builtin.Str.strCompare "__ne__" _ ⟨[.str z t, .ref x], []⟩) _ _ s
  unfold Builtin.Str.strCompare Builtin.Str.strSlot
  repeat (first | with_reducible refine wpAny_load hx ?_ | wp_step)
  exact ⟨_, rfl, rfl, rfl, rfl⟩
theorem declLst_ne (hT : s.TypeIs (.ref l) "list") (X : K.In s.heap) (I : PySem.W.InstAt s.heap x ox C od) (hsub : PySem.W.subIn K (.ref C) (.type "list") = some false) : Decl prog w A E s (.ref l) "__ne__" x := by
  refine wpAny_tryCompare_declines hT F.slot_list_ne (wpAny_call_entry F.slot_list_ne hT F.entry_list_ne ?_ (F.args_list_ne_2 _ _))
  show wpAny _ _ (slotArgs "__ne__" 1 ⟨[.ref l, .ref x], []⟩ >>= _) _ _ s
  repeat (first | with_reducible refine isInstNo X I hsub ?_ | wp_step)
  exact ⟨_, rfl, rfl, rfl, rfl⟩
theorem declTup_ne (hT : s.TypeIs (.ref l) "tuple") (X : K.In s.heap) (I : PySem.W.InstAt s.heap x ox C od) (hsub : PySem.W.subIn K (.ref C) (.type "tuple") = some false) : Decl prog w A E s (.ref l) "__ne__" x := by
  refine wpAny_tryCompare_declines hT F.slot_tuple_ne (wpAny_call_entry F.slot_tuple_ne hT F.entry_tuple_ne ?_ (F.args_tuple_ne_2 _ _))
  show wpAny _ _ (slotArgs "__ne__" 1 ⟨[.ref l, .ref x], []⟩ >>= _) _ _ s
  repeat (first | with_reducible refine isInstNo X I hsub ?_ | wp_step)
  exact ⟨_, rfl, rfl, rfl, rfl⟩
theorem declDct_ne (hT : s.TypeIs (.ref l) "dict") (X : K.In s.heap) (I : PySem.W.InstAt s.heap x ox C od) (hsub : PySem.W.subIn K (.ref C) (.type "dict") = some false) : Decl prog w A E s (.ref l) "__ne__" x := by
  refine wpAny_tryCompare_declines hT F.slot_dict_ne (wpAny_call_entry F.slot_dict_ne hT F.entry_dict_ne ?_ (F.args_dict_ne_2 _ _))
  show wpAny _ _ (Builtin.Dict.dictSlotArgs "__ne__" ⟨[.ref l, .ref x], []⟩ >>= _) _ _ s
  refine wpAny_bind ?_
  unfold Builtin.Dict.dictSlotArgs
  refine wpAny_bind (wpAny_notOrdered_dict hT ?_)
  repeat (first | with_reducible refine isInstNo X I hsub ?_ | wp_step)
  exact ⟨_, rfl, rfl, rfl, rfl⟩
end
end Cr
/-! Cr: == and != as expressions, for a class with its own == -/
namespace Cr
open PySem PySem.Spec PyProof.Rows L2 Evl
/-- what the top says of the class -/
structure EqC (K : PySem.W.Frag) (C f : Addr) : Prop where
  eq : PySem.W.findIn K (.ref C) "__eq__" = some (some (.ref f))
  fn : PySem.W.isFn K (.ref f) = true
  ne : PySem.W.findIn K (.ref C) "__ne__" = some (some (.builtin "object.__ne__"))
  ob : PySem.W.mroIn K C (.type "object") = some true
  sn : PySem.W.subIn K (.ref C) (.type "NoneType") = some false
  si : PySem.W.subIn K (.ref C) (.type "int") = some false
  ss : PySem.W.subIn K (.ref C) (.type "str") = some false
  sl : PySem.W.subIn K (.ref C) (.type "list") = some false
  st : PySem.W.subIn K (.ref C) (.type "tuple") = some false
  sd : PySem.W.subIn K (.ref C) (.type "dict") = some false
/-- data at the other side -/
def OthB (H : Hp) : V → Prop
  | .non => True
  | .int _ => True
  | .str _ => True
  | .ref p => (∃ xs, H p = some (.lst xs)) ∨ (∃ xs, H p = some (.tup xs)) ∨ ∃ kvs, H p = some (.dK kvs)
  | _ => False
theorem OthB.ex {H H' : Hp} {y : V} (h : OthB H y) (e : Ex H H') : OthB H' y := by
  cases y with
  | ref p =>
    rcases h with ⟨xs, z⟩ | ⟨xs, z⟩ | ⟨xs, z⟩
    · exact .inl ⟨xs, e _ _ z⟩
    · exact .inr (.inl ⟨xs, e _ _ z⟩)
    · exact .inr (.inr ⟨xs, e _ _ z⟩)
  | _ => exact h
theorem subB {K : PySem.W.Frag} {C : Addr} {T : String} {l : List Value} (e : fastBuiltinMro T = some l) (n : l.contains (.ref C) = false) : PySem.W.subIn K (.type T) (.ref C) = some false := by
  show (fastBuiltinMro T).map (·.contains (.ref C)) = some false
  rw [e]
  show some (l.contains (.ref C)) = some false
  rw [n]
section
variable {X : Cx} {n : Nat} {C f : Addr} {fd : FuncData} {ps : List Str} {sp : Sp} {E : XK} {CX : CXT}
theorem runOwn {A : Around} {pins : List (Addr × Obj)} {σ : L2.St} {H : Hp} {s : Shared} {vs : List V} {us : List Value} {Q : VK} (F : FnOk X.prog X.w X.K X.mg X.base CX n f fd ps sp) (hb : Binds X.K fd ps []) (hx : Passes CX X E) (sb : L2.Sub X n A) (I : Inv X pins σ H s) (r : Vals vs us) (hsp : sp vs H Q E) :
    wpAny (model X.prog X.w) A (call (.ref f) us) (fun v s' => ∃ z H', Inv X pins σ H' s' ∧ RelV z v ∧ Q z H') X.xe s := by
  have e0 : Env0 X.prog X.w X.K X.mg X.base A X.stack s H := by
    have e := I.env0
    exact ⟨by rw [sb.fr]; exact e.frames, e.mod, e.bs, e.bsz, e.funs, e.frf, e.hok, e.bare⟩
  have hl := F.len _ _ _ _ hsp
  refine wpAny_call (codeAny_mono (F.run A X.stack s H ⟨us, []⟩ us vs _ E sb.room e0 (by
    have := hb s us I.kIn (by rw [List.append_nil, ← r.length]; exact hl)
    simpa using this) r hsp) fun r s' hq => ?_)
  cases r with
  | error e => exact hx pins σ H s e s' I hq
  | ok fl =>
    cases fl with
    | ret w =>
      obtain ⟨z, H', I', rz, q⟩ := I.after hq
      exact ⟨z, H', I', rz, q⟩
    | next => exact False.elim hq
    | brk => exact False.elim hq
    | cont => exact False.elim hq
theorem looksT {M : Model} {s : Shared} {u : Value} {T : String} (h : s.TypeIs u T) : PySem.W.Looks M s.heap (typeOf u) (.type T) := by
  cases u with
  | ref a =>
    obtain ⟨o, ho, hc⟩ := h
    exact hc ▸ (PySem.W.Looks.ld ho).andThen .now
  | _ => exact PySem.W.Looks.of_pure h
/-- the type of what stands at the other side, and that it declines -/
theorem othT {pins : List (Addr × Obj)} {σ : L2.St} {H : Hp} {s : Shared} {y : V} {u : Value} (T : EqC X.K C f) (I : Inv X pins σ H s) (r : RelV y u) (h : OthB H y) {A : Around} {Ex' : Value → Shared → Prop} {a dx : Addr} (hx : s.heap.get? a = some (PySem.W.instObj C dx)) {od : Option Obj} (J : PySem.W.InstAt s.heap a (PySem.W.instObj C dx) C od) :
    ∃ N : String, s.TypeIs u N ∧ PySem.W.subIn X.K (.type N) (.ref C) = some false ∧ PySem.W.subIn X.K (.ref C) (.type N) = some false ∧ Decl X.prog X.w A Ex' s u "__eq__" a ∧ Decl X.prog X.w A Ex' s u "__ne__" a := by
  have tyd : ∀ {p : Addr} {N : String}, tyV X.K N (.ref p) H → s.TypeIs (.ref p) N := fun t => (tyV_is I (show RelV (.ref _) (.ref _) from rfl) t).1
  cases y with
  | non =>
    obtain rfl : u = .none := r
    exact ⟨"NoneType", rfl, subB (l := [.type "NoneType", .type "object"]) (by decide +kernel) (by simp), T.sn, declNone_eq, declNone_ne⟩
  | int i =>
    obtain ⟨t, rfl⟩ := r
    exact ⟨"int", typeIs_int s i t, subB (l := [.type "int", .type "object"]) (by decide +kernel) (by simp), T.si, declInt_eq hx, declInt_ne hx⟩
  | str z =>
    obtain ⟨t, rfl⟩ := r
    exact ⟨"str", typeIs_str s z t, subB (l := [.type "str", .type "object"]) (by decide +kernel) (by simp), T.ss, declStr_eq hx, declStr_ne hx⟩
  | ref p =>
    obtain rfl : u = .ref p := r
    rcases h with ⟨xs, z⟩ | ⟨xs, z⟩ | ⟨kvs, z⟩
    · have ty := tyd (N := "list") (.inl ⟨rfl, xs, sq_of z⟩)
      exact ⟨"list", ty, subB (l := [.type "list", .type "object"]) (by decide +kernel) (by simp), T.sl, declLst_eq ty I.kIn J T.sl, declLst_ne ty I.kIn J T.sl⟩
    · have ty : s.TypeIs (.ref p) "tuple" := by
        obtain ⟨_, _, _, o, e⟩ := I.hok p _ z
        exact ⟨_, e.1, e.2.1⟩
      exact ⟨"tuple", ty, subB (l := [.type "tuple", .type "object"]) (by decide +kernel) (by simp), T.st, declTup_eq ty I.kIn J T.st, declTup_ne ty I.kIn J T.st⟩
    · have ty := tyd (N := "dict") (.inr (.inr (.inl ⟨rfl, .inl ⟨kvs, z⟩⟩)))
      exact ⟨"dict", ty, subB (l := [.type "dict", .type "object"]) (by decide +kernel) (by simp), T.sd, declDct_eq ty I.kIn J T.sd, declDct_ne ty I.kIn J T.sd⟩
  | _ => exact False.elim h
def rOwn (C : Addr) (neg : Bool) (sp : Sp) (E : XK) : R2 := fun x y H Q =>
  (∃ a dx fs, x = .ref a ∧ H a = some (.ins C dx fs) ∧ (OthB H y ∨ ∃ b dy gs, y = .ref b ∧ H b = some (.ins C dy gs)) ∧ sp [x, y] H (fun v H' => ∃ r, v = .bl r ∧ Q (.bl (if neg then !r else r)) H') E) ∨
  (∃ a dx fs, y = .ref a ∧ H a = some (.ins C dx fs) ∧ OthB H x ∧ sp [y, x] H (fun v H' => ∃ r, v = .bl r ∧ Q (.bl (if neg then !r else r)) H') E)
theorem insAt {pins : List (Addr × Obj)} {σ : L2.St} {H : Hp} {s : Shared} {a dx : Addr} {fs : List (Str × V)} (I : Inv X pins σ H s) (h : H a = some (.ins C dx fs)) : s.heap.get? a = some (PySem.W.instObj C dx) ∧ ∃ od, PySem.W.InstAt s.heap a (PySem.W.instObj C dx) C od := by
  obtain ⟨mA, O, _⟩ := ins_get I.hok h
  obtain ⟨od, J, _⟩ := O.look
  have e := (show ObjOk X.prog X.w H s.heap a (.ins C dx fs) from I.hok a _ h).2.2.2.1
  have e2 := J.at_
  rw [e] at e2
  cases e2
  exact ⟨e, od, J⟩
theorem op_ownEq (T : EqC X.K C f) (F : FnOk X.prog X.w X.K X.mg X.base CX n f fd ps sp) (hb : Binds X.K fd ps []) (hx : Passes CX X E) (hr : Room n X.A) : OpR X (compareOp .Eq) (rOwn C false sp E) := by
  intro pins s σ H x y v u Q I rx ry h
  show wpAny (model X.prog X.w) X.A (richCompare .Eq v u) (EP X pins σ Q) X.xe s
  have sb : L2.Sub X n X.A := ⟨hr, rfl⟩
  obtain ⟨m, hF⟩ := I.fr
  rcases h with ⟨a, dx, fs, rfl, ha, ho, hsp⟩ | ⟨a, dx, fs, rfl, ha, ho, hsp⟩
  · obtain rfl : v = .ref a := rx
    obtain ⟨e, od, J⟩ := insAt I ha
    obtain ⟨tb, lb, nf⟩ : ∃ tb, PySem.W.Looks (model X.prog X.w) s.heap (typeOf u) tb ∧ PySem.W.notFirst X.K C tb = true := by
      rcases ho with ho | ⟨b, dy, gs, rfl, hb'⟩
      · obtain ⟨N, ty, s1, s2, _⟩ := othT (A := X.A) (Ex' := X.xe) T I ry ho e J
        exact ⟨_, looksT ty, by unfold PySem.W.notFirst; rw [s1]; simp⟩
      · obtain rfl : u = .ref b := ry
        obtain ⟨e2, od2, J2⟩ := insAt I hb'
        exact ⟨_, J2.type, by simp [PySem.W.notFirst]⟩
    refine PySem.W.cmp_K (op := .Eq) (tb := tb) hr.units0 hF I.ok.mod.kin J lb nf T.eq T.fn (wpAny_mono (runOwn F hb hx sb I (.cons (show RelV (.ref a) (.ref a) from rfl) (.cons ry .nil)) hsp) (fun v' s' q => ?_) fun _ _ z => z)
    obtain ⟨z, H', I', rz, r, rfl, q⟩ := q
    obtain rfl : v' = .bool r := rz
    exact ⟨.bl r, H', I', rfl, q⟩
  · obtain rfl : u = .ref a := ry
    obtain ⟨e, od, J⟩ := insAt I ha
    obtain ⟨N, ty, s1, s2, d1, d2⟩ := othT (A := X.A) (Ex' := X.xe) T I rx ho e J
    refine rcEqR hr.units0 I.kIn J ty s2 d1 T.eq T.fn (wpAny_mono (runOwn F hb hx sb I (.cons (show RelV (.ref a) (.ref a) from rfl) (.cons rx .nil)) hsp) (fun v' s' q => ?_) fun _ _ z => z)
    obtain ⟨z, H', I', rz, r, rfl, q⟩ := q
    obtain rfl : v' = .bool r := rz
    exact ⟨r, rfl, .bl r, H', I', rfl, q⟩
theorem op_ownNe (T : EqC X.K C f) (F : FnOk X.prog X.w X.K X.mg X.base CX n f fd ps sp) (hb : Binds X.K fd ps []) (hx : Passes CX X E) (hr : Room (n + 1) X.A) : OpR X (compareOp .NotEq) (rOwn C true sp E) := by
  intro pins s σ H x y v u Q I rx ry h
  show wpAny (model X.prog X.w) X.A (richCompare .NotEq v u) (EP X pins σ Q) X.xe s
  have sb : L2.Sub X n X.A.in1 := L2.Sub.in1 ⟨hr, rfl⟩
  have hu : X.A.units + 1 < cLine := hr.in1.units0
  rcases h with ⟨a, dx, fs, rfl, ha, ho, hsp⟩ | ⟨a, dx, fs, rfl, ha, ho, hsp⟩
  · obtain rfl : v = .ref a := rx
    obtain ⟨e, od, J⟩ := insAt I ha
    obtain ⟨tb, lb, nf⟩ : ∃ tb, PySem.W.Looks (model X.prog X.w) s.heap (typeOf u) tb ∧ PySem.W.notFirst X.K C tb = true := by
      rcases ho with ho | ⟨b, dy, gs, rfl, hb'⟩
      · obtain ⟨N, ty, s1, s2, _⟩ := othT (A := X.A) (Ex' := X.xe) T I ry ho e J
        exact ⟨_, looksT ty, by unfold PySem.W.notFirst; rw [s1]; simp⟩
      · obtain rfl : u = .ref b := ry
        obtain ⟨e2, od2, J2⟩ := insAt I hb'
        exact ⟨_, J2.type, by simp [PySem.W.notFirst]⟩
    refine rcNeL hu I.kIn J lb nf T.eq T.fn T.ne T.ob (wpAny_mono (runOwn F hb hx sb I (.cons (show RelV (.ref a) (.ref a) from rfl) (.cons ry .nil)) hsp) (fun v' s' q => ?_) fun _ _ z => z)
    obtain ⟨z, H', I', rz, r, rfl, q⟩ := q
    obtain rfl : v' = .bool r := rz
    exact ⟨r, rfl, .bl (!r), H', I', rfl, q⟩
  · obtain rfl : u = .ref a := ry
    obtain ⟨e, od, J⟩ := insAt I ha
    obtain ⟨N, ty, s1, s2, d1, d2⟩ := othT (A := X.A) (Ex' := X.xe) T I rx ho e J
    refine rcNeR hu I.kIn J ty s2 d2 T.eq T.fn T.ne T.ob (wpAny_mono (runOwn F hb hx sb I (.cons (show RelV (.ref a) (.ref a) from rfl) (.cons rx .nil)) hsp) (fun v' s' q => ?_) fun _ _ z => z)
    obtain ⟨z, H', I', rz, r, rfl, q⟩ := q
    obtain rfl : v' = .bool r := rz
    exact ⟨r, rfl, .bl (!r), H', I', rfl, q⟩
end
end Cr
/-! == and in, of data of any kind, dicts among them -/
/-! C(..) in a try: what __init__ raises wished for at the caller's slots -/
/-! expressions by the data that they give -/
namespace Cr
open PySem PySem.Spec PyProof.Rows L2 Evl
def EvD (te : TE) (σ : L2.St) (H : Hp) (d : PyData) : Prop := ∀ H1, Ex H H1 → ∀ Q : VK, (∀ v H2, Ex H1 H2 → Dt H2 v d → Q v H2) → te σ H1 Q
def EvDA (ta : TA) (σ : L2.St) (H : Hp) (ds : List PyData) : Prop := ∀ H1, Ex H H1 → ∀ Q : List V → Hp → Prop, (∀ vs H2, Ex H1 H2 → DtAll H2 vs ds → Q vs H2) → ta σ H1 Q
theorem dtAll_mem' {H : Hp} : ∀ {vs : List V} {ds : List PyData} {v : V}, DtAll H vs ds → v ∈ vs → ∃ d ∈ ds, Dt H v d
  | _, _, _, .nil, h => nomatch h
  | _, _, _, .cons a b, h => by
    rcases List.mem_cons.mp h with rfl | h
    · exact ⟨_, List.mem_cons_self, a⟩
    · obtain ⟨d, h1, h2⟩ := dtAll_mem' b h
      exact ⟨d, List.mem_cons_of_mem _ h1, h2⟩
theorem dtAll_len {H : Hp} : ∀ {vs : List V} {ds : List PyData}, DtAll H vs ds → vs.length = ds.length
  | _, _, .nil => rfl
  | _, _, .cons _ b => by rw [List.length_cons, List.length_cons, dtAll_len b]
def rNeDt : R2 := fun x y H Q => ∃ d e, Dt H x d ∧ Dt H y e ∧ SeqAt.shaped d = true ∧ SeqAt.shaped e = true ∧ Q (.bl (!PyData.eqv d e)) H
theorem op_neDt {X : Cx} (hu : X.A.units + 64 < cLine) : OpR X (compareOp .NotEq) rNeDt := by
  intro pins s σ H x y v u Q I rx ry h
  obtain ⟨d, e, hd, he, sd, se, q⟩ := h
  obtain ⟨as, r1⟩ := (Dt.shown I hd rx).1
  obtain ⟨bs, r2⟩ := (Dt.shown I he ry).1
  exact SeqAt.compareNe_shaped r1 r2 sd se hu ⟨.bl _, H, I, rfl, q⟩
section
variable {te : TE} {ta : TA} {σ : L2.St} {H : Hp} {v : V} {d : PyData} {ds : List PyData}
theorem evd_of (h : Ev te σ H v) (hd : Dt H v d) : EvD te σ H d := fun H1 e Q q => h H1 e _ fun H2 e2 => q v H2 e2 (Dt.ex (e.trans e2) hd)
theorem evd_non : EvD (tC .non) σ H .none := evd_of ev_c .non
theorem evd_str {x : Str} : EvD (tC (.str x)) σ H (.str x) := evd_of ev_c (.str x)
theorem evd_int {i : Int} : EvD (tC (.int i)) σ H (.int i) := evd_of ev_c (.int i)
theorem evd_bl {b : Bool} : EvD (tC (.bl b)) σ H (.bool b) := evd_of ev_c (.bl b)
theorem evda_nil : EvDA tNil σ H [] := fun H1 e Q q => q [] H1 (Ex.refl H1) .nil
theorem evda_cons (h1 : EvD te σ H d) (h2 : EvDA ta σ H ds) : EvDA (tCons te ta) σ H (d :: ds) := fun H1 e Q q =>
  h1 H1 e _ fun v H2 e2 hv => h2 H2 (e.trans e2) _ fun vs H3 e3 hvs => q (v :: vs) H3 (e2.trans e3) (.cons (Dt.ex e3 hv) hvs)
theorem evd_lst (h : EvDA ta σ H ds) (hl : ds.length ≤ 1000) : EvD (tLst ta) σ H (.list ds) := fun H1 e Q q =>
  h H1 e _ fun vs H2 e2 hvs => ⟨Nat.le_trans (Nat.le_of_eq (dtAll_len hvs)) (Nat.le_trans hl (by decide)), fun l hl' => q (.ref l) _ (e2.trans (Ex.new hl')) (.lst upd_same (DtAll.ex (Ex.new hl') hvs))⟩
theorem evd_tup (h : EvDA ta σ H ds) (hl : ds.length ≤ 1000) : EvD (tTup ta) σ H (.tuple ds) := fun H1 e Q q =>
  h H1 e _ fun vs H2 e2 hvs => ⟨Nat.le_trans (Nat.le_of_eq (dtAll_len hvs)) (Nat.le_trans hl (by decide)), fun l hl' => q (.ref l) _ (e2.trans (Ex.new hl')) (.tup upd_same (DtAll.ex (Ex.new hl') hvs))⟩
theorem evd_dnew : EvD tDNewK σ H (.dict []) := fun H1 e Q q => fun l hl => q (.ref l) _ (Ex.new hl) (.dct upd_same .nil)
theorem dt_lst {H : Hp} {v : V} (h : Dt H v (.list ds)) : ∃ a xs, v = .ref a ∧ H a = some (.lst xs) ∧ DtAll H xs ds := by
  cases h with
  | lst h1 h2 => exact ⟨_, _, rfl, h1, h2⟩
theorem dtAll_app {H : Hp} : ∀ {xs ys : List V} {ds es : List PyData}, DtAll H xs ds → DtAll H ys es → DtAll H (xs ++ ys) (ds ++ es)
  | _, _, _, _, .nil, h => h
  | _, _, _, _, .cons a b, h => .cons a (dtAll_app b h)
theorem dtAll_rep {H : Hp} {x : V} {d : PyData} (h : Dt H x d) : ∀ n : Nat, DtAll H (List.replicate n x) (List.replicate n d)
  | 0 => .nil
  | n + 1 => .cons h (dtAll_rep h n)
theorem evd_cat {t1 t2 : TE} {es : List PyData} (h1 : EvD t1 σ H (.list ds)) (h2 : EvD t2 σ H (.list es)) (hl : ds.length + es.length ≤ 1000) : EvD (tOp rCat t1 t2) σ H (.list (ds ++ es)) := fun H1 e Q q =>
  h1 H1 e _ fun v H2 e2 hv => h2 H2 (e.trans e2) _ fun u H3 e3 hu => by
    obtain ⟨a, xs, rfl, ha, hx⟩ := dt_lst (Dt.ex e3 hv)
    obtain ⟨b, ys, rfl, hb, hy⟩ := dt_lst hu
    exact ⟨a, b, xs, ys, rfl, rfl, ha, hb, Nat.le_trans (by rw [dtAll_len hx, dtAll_len hy]; exact hl) (by decide), fun p hp => q (.ref p) _ ((e2.trans e3).trans (Ex.new hp)) (.lst upd_same (DtAll.ex (Ex.new hp) (dtAll_app hx hy)))⟩
theorem rep_flat {α : Type} {x : α} : ∀ n : Nat, (List.replicate n [x]).flatten = List.replicate n x
  | 0 => rfl
  | n + 1 => by rw [List.replicate_succ, List.flatten_cons, rep_flat n]; rfl
theorem evd_rep {n : Nat} (h : EvD te σ H (.list [d])) (hn : n ≤ 100) : EvD (tOp rRep te (tC (.int (n : Int)))) σ H (.list (List.replicate n d)) := fun H1 e Q q =>
  h H1 e _ fun v H2 e2 hv => by
    obtain ⟨a, xs, rfl, ha, hx⟩ := dt_lst hv
    cases hx with
    | cons hx hr =>
      cases hr
      refine ⟨a, (n : Int), _, rfl, rfl, ha, by omega, by omega, ?_, fun p hp => q (.ref p) _ (e2.trans (Ex.new hp)) ?_⟩
      · rw [List.length_singleton, Nat.one_mul, show ((n : Int).toNat) = n by omega]
        exact Nat.le_trans hn (by decide)
      · refine .lst upd_same ?_
        rw [show ((n : Int).toNat) = n by omega, rep_flat]
        exact dtAll_rep (Dt.ex (Ex.new hp) hx) n
theorem s_forD {K : PySem.W.Frag} {tl : TE} {tu : TS} {D : Ends} {g : TG} (h : EvD tl σ H (.list ds)) (Pv : L2.St → Prop) (h0 : Pv σ)
    (hs : ∀ H1, Ex H H1 → ∀ v d σ' H', d ∈ ds → Ex H1 H' → Dt H' v d → Pv σ' → g v σ' H' fun σ2 H2 => tu { D with nx := fun σ3 H3 => Pv σ3 ∧ Ex H1 H3, ct := fun σ3 H3 => Pv σ3 ∧ Ex H1 H3, bk := D.nx } σ2 H2)
    (hd : ∀ σ' H', Pv σ' → Ex H H' → D.nx σ' H') : tFor (iList K tl) g tu D σ H :=
  h H (Ex.refl H) _ fun v H1 e hv => by
    obtain ⟨a, xs, rfl, ha, hx⟩ := dt_lst hv
    refine ⟨a, rfl, ⟨xs, sq_of ha⟩, for_list (fun _ σ' H' => Pv σ' ∧ Ex H1 H') ⟨h0, Ex.refl H1⟩ (fun i σ' H' _ hP => sq_of (hP.2 _ _ ha)) (fun i x σ' H' hi hP => ?_) (fun σ' H' hP => hd σ' H' hP.1 (e.trans hP.2))⟩
    obtain ⟨d, hd1, hd2⟩ := dtAll_mem' hx (List.mem_of_getElem? hi)
    exact hs H1 e x d σ' H' hd1 hP.2 (Dt.ex hP.2 hd2) hP.1
end
end Cr
/-! expressions by the data that they give, further -/
namespace Cr
open PySem PySem.Spec PyProof.Rows L2 Evl
theorem evd_var {i : Nat} {σ : L2.St} {H : Hp} {v : V} {d : PyData} (h : σ[i]? = some (some v)) (hd : Dt H v d) : EvD (tVar i) σ H d := evd_of (ev_var h) hd
section
variable {K : PySem.W.Frag} {te ta tb : TE} {tA : TA} {σ : L2.St} {H : Hp} {d e : PyData} {ds : List PyData} {i j : Nat} {E : XK}
theorem evd_ofL {xs : List V} (h : EvL te σ H xs) (hd : ∀ H, DtAll H xs ds) : EvD te σ H (.list ds) := fun H1 e1 Q q => h H1 e1 _ fun p H2 z e2 hp => q (.ref p) H2 e2 (.lst hp (hd _))
theorem et_neD (h1 : EvD ta σ H d) (h2 : EvD tb σ H e) (s1 : SeqAt.shaped d = true) (s2 : SeqAt.shaped e = true) : EvT (tTest (tOp rNeDt ta tb)) σ H (!PyData.eqv d e) := fun H1 e1 Q q =>
  h1 H1 e1 _ fun v H2 e2 hv => h2 H2 (e1.trans e2) _ fun u H3 e3 hu => ⟨d, e, Dt.ex e3 hv, hu, s1, s2, _, rfl, q H3 (e2.trans e3)⟩
theorem ev_reprD (h : EvD te σ H d) (hf : Fits d) : Ev (tCB rRepr (tCons te tNil)) σ H (.str d.shown) := fun H1 e1 Q q => h H1 e1 _ fun v H2 e2 hv => ⟨v, d, rfl, hv, hf, q H2 e2⟩
end
/-! ### in a list of data -/
/-! ### a list of pairs made in a comprehension -/
/-! ### a list that is new -/
def EvDF (te : TE) (σ : L2.St) (H : Hp) (d : PyData) : Prop := ∀ H1, Ex H H1 → ∀ Q : VK, (∀ p H2, H1 p = none → Ex H1 H2 → Dt H2 (.ref p) d → Q (.ref p) H2) → te σ H1 Q
theorem EvDF.d {te : TE} {σ : L2.St} {H : Hp} {d : PyData} (h : EvDF te σ H d) : EvD te σ H d := fun H1 e Q q => h H1 e Q fun p H2 _ e2 hd => q (.ref p) H2 e2 hd
/-! ### a list filtered in a comprehension -/
/-! ### lists and tuples stay -/
def KeepLT (H H' : Hp) : Prop := (∀ b xs, H b = some (.lst xs) → H' b = some (.lst xs)) ∧ ∀ b xs, H b = some (.tup xs) → H' b = some (.tup xs)
mutual
def ndt : PyData → Bool
  | .list xs | .tuple xs => ndtAll xs
  | .dict _ => false
  | _ => true
def ndtAll : List PyData → Bool
  | [] => true
  | x :: xs => ndt x && ndtAll xs
end
mutual
theorem Dt.keepLT {H H' : Hp} (e : KeepLT H H') : ∀ {v : V} {d : PyData}, ndt d = true → Dt H v d → Dt H' v d
  | _, _, _, .non => .non
  | _, _, _, .bl b => .bl b
  | _, _, _, .int i => .int i
  | _, _, _, .str x => .str x
  | _, _, z, .lst h a => .lst (e.1 _ _ h) (DtAll.keepLT e (by rw [ndt] at z; exact z) a)
  | _, _, z, .tup h a => .tup (e.2 _ _ h) (DtAll.keepLT e (by rw [ndt] at z; exact z) a)
  | _, _, z, .dct h a => by rw [ndt] at z; cases z
theorem DtAll.keepLT {H H' : Hp} (e : KeepLT H H') : ∀ {vs : List V} {ds : List PyData}, ndtAll ds = true → DtAll H vs ds → DtAll H' vs ds
  | _, _, _, .nil => .nil
  | _, _, z, .cons a b => by
    rw [ndtAll, Bool.and_eq_true] at z
    exact .cons (Dt.keepLT e z.1 a) (DtAll.keepLT e z.2 b)
end
theorem keep_but {p dd : Addr} {H H' : Hp} {kvs : List (Key × V)} (e : ∀ a o, a ∉ [dd] → H a = some o → H' a = some o) (hd : H dd = some (.dK kvs)) : KeepLT (wo p H) (wo p H') := by
  refine ⟨fun b xs h => ?_, fun b xs h => ?_⟩
  · obtain ⟨n, h⟩ := wo_some h
    rw [wo_ne n]
    exact e b _ (fun z => by rw [List.mem_singleton.mp z, hd] at h; cases h) h
  · obtain ⟨n, h⟩ := wo_some h
    rw [wo_ne n]
    exact e b _ (fun z => by rw [List.mem_singleton.mp z, hd] at h; cases h) h
theorem dts_strs {H : Hp} : ∀ xs : List Str, DtAll H (xs.map V.str) (xs.map PyData.str)
  | [] => .nil
  | x :: r => .cons (.str x) (dts_strs r)
end Cr
/-! decimal words, texts of whole numbers, words of a text -/
namespace Cr
open PySem PySem.Spec PyProof.Rows L2 Evl
/-! ### the text of a whole number -/
abbrev numT (i : Int) : Str := Str.ofString (toString i)
theorem num_pos (n : Nat) : (numT (n : Int)).cps.toList = TL.numL n := TL.tl_num n
theorem num_neg (n : Nat) : (numT (Int.negSucc n)).cps.toList = 45 :: TL.numL (n + 1) := by
  have e : toString (Int.negSucc n) = "-" ++ toString (((n + 1 : Nat)) : Int) := rfl
  have z : (Str.ofString (toString (((n + 1 : Nat)) : Int))).cps.toList = TL.numL (n + 1) := num_pos (n + 1)
  show (Str.ofString (toString (Int.negSucc n))).cps.toList = _
  rw [signs_ofString] at z ⊢
  rw [e, String.toList_append, List.map_append, z]
  rfl
/-! ### the words of a text -/
end Cr
/-! frames: run_plain -/
namespace Cr
open PySem PySem.Spec PyProof.Rows L2 Evl
/-- how far a plain step goes, and the memory behind it -/
def goes (us : List V) (m : M4) : Nat :=
  match us with
  | [.str z, .str x, .int i] => if z = "skip" ∧ m.get x > 0 then 1 + i.toNat else 1
  | _ => 1
inductive PlainV : List V → Prop
  | set {x : Str} {i : Int} (h : isVar (.str x) = true) : PlainV [.str "set", .str x, .int i]
  | add {x y : Str} (h : isVar (.str x) = true) (h' : isVar (.str y) = true) : PlainV [.str "add", .str x, .str y]
  | skip {x : Str} {i : Int} (h : isVar (.str x) = true) (h' : 1 ≤ i) : PlainV [.str "skip", .str x, .int i]
theorem plain_kinds {z : Str} (h : (plain3.any fun y => y == z) = true) : z = "set" ∨ z = "add" ∨ z = "skip" := by
  simp only [plain3, List.any_cons, List.any_nil, Bool.or_false, Bool.or_eq_true, beq_iff_eq] at h
  rcases h with h | h | h
  · exact .inl h.symm
  · exact .inr (.inl h.symm)
  · exact .inr (.inr h.symm)
/-- a plain step by its values -/
theorem plain_of {us : List V} (h : StepV us) (hp : isPlain (.tuple (us.map flD)) = true) : PlainV us := by
  have hs := h.step
  have hb := h.bare
  unfold isPlain at hp
  rw [hs, Bool.true_and] at hp
  have str1 : ∀ {v : V}, isVar (flD v) = true → ∃ x, v = .str x := fun {v} h => by
    cases v with
    | str x => exact ⟨x, rfl⟩
    | _ => exact nomatch h
  have int1 : ∀ {v : V}, isInteger (flD v) = true → ∃ i, v = .int i := fun {v} h => by
    cases v with
    | int i => exact ⟨i, rfl⟩
    | _ => exact nomatch h
  cases us with
  | nil => exact nomatch hs
  | cons v0 us =>
    cases v0 with
    | str z =>
      have hp' : (plain3.any fun y => y == z) = true := hp
      have hs' : isStep (.tuple (.str z :: us.map flD)) = true := hs
      have two : ∀ {k1 k2 : Str}, shapeOf z = some [k1, k2] → ∃ a b, us = [a, b] ∧ isItem (flD a) k1 = true ∧ isItem (flD b) k2 = true := fun {k1 k2} e => by
        rw [isStep_eq e] at hs'
        obtain ⟨a1, a2⟩ := Bool.and_eq_true_iff.mp hs'
        have hl : (us.map flD).length = 2 := of_decide_eq_true a1
        rw [List.length_map] at hl
        match us, hl with
        | [a, b], _ =>
          rw [List.map_cons, List.map_cons, List.map_nil, items2] at a2
          obtain ⟨c1, c2⟩ := Bool.and_eq_true_iff.mp a2
          exact ⟨a, b, rfl, c1, c2⟩
      rcases plain_kinds hp' with rfl | rfl | rfl
      · obtain ⟨a, b, rfl, c1, c2⟩ := two sh_set
        rw [it_var] at c1
        rw [it_int] at c2
        obtain ⟨x, rfl⟩ := str1 c1
        obtain ⟨i, rfl⟩ := int1 c2
        exact .set c1
      · obtain ⟨a, b, rfl, c1, c2⟩ := two sh_add
        rw [it_var] at c1 c2
        obtain ⟨x, rfl⟩ := str1 c1
        obtain ⟨y, rfl⟩ := str1 c2
        exact .add c1 c2
      · obtain ⟨a, b, rfl, c1, c2⟩ := two sh_skip
        rw [it_var] at c1
        rw [it_len] at c2
        obtain ⟨c3, c4⟩ := Bool.and_eq_true_iff.mp c2
        obtain ⟨x, rfl⟩ := str1 c1
        obtain ⟨i, rfl⟩ := int1 c3
        exact .skip c1 (of_decide_eq_true c4)
    | _ =>
      rw [List.all_cons] at hb
      first
        | exact nomatch hs
        | exact nomatch hb
end Cr
/-! the law's own draws -/
namespace Cr
open PySem PySem.Spec PyProof.Rows L2 Evl
abbrev sPot : Stmt := topS 31
abbrev sDraw : Stmt := topS 32
abbrev sChoice : Stmt := topS 33
abbrev nPot : List Str := ["_law_script", "_law_index", "_law_cell"]
abbrev nDraw : List Str := ["_law_pot_here", "_law_bound", "_law_digit"]
abbrev nChoice : List Str := ["_law_pot_here", "_law_options"]
theorem scPot : FnScope nPot ["_law_script", "_law_index"] (defScope sPot) := ⟨rfl, rfl, rfl, by decide +kernel, rfl, by decide +kernel, by decide +kernel⟩
theorem scDraw : FnScope nDraw ["_law_pot_here", "_law_bound"] (defScope sDraw) := ⟨rfl, rfl, rfl, by decide +kernel, rfl, by decide +kernel, by decide +kernel⟩
theorem scChoice : FnScope nChoice ["_law_pot_here", "_law_options"] (defScope sChoice) := ⟨rfl, rfl, rfl, by decide +kernel, rfl, by decide +kernel, by decide +kernel⟩
theorem bMax : bootBuiltins "max" = some (.builtin "max") := by decide +kernel
theorem bMin : bootBuiltins "min" = some (.builtin "min") := by decide +kernel
theorem bAbs : bootBuiltins "abs" = some (.builtin "abs") := by decide +kernel
theorem bDivmod : bootBuiltins "divmod" = some (.builtin "divmod") := by decide +kernel
/-- the pot at p -/
def Pot (H : Hp) (p : Addr) : Prop := ∃ x y : Int, H p = some (.lst [.int x, .int y]) ∧ 0 ≤ x ∧ 0 ≤ y ∧ y < 2147483648
/-- drawn from: all but the pot stands as it stood -/
structure Drew (p : Addr) (H H' : Hp) : Prop where
  ex : Ex (wo p H) (wo p H')
  pot : Pot H' p
theorem Drew.trans {p : Addr} {H H1 H2 : Hp} (a : Drew p H H1) (b : Drew p H1 H2) : Drew p H H2 := ⟨a.ex.trans b.ex, b.pot⟩
theorem Drew.refl {p : Addr} {H : Hp} (h : Pot H p) : Drew p H H := ⟨Ex.refl _, h⟩
theorem Pot.ex {p : Addr} {H H' : Hp} (h : Pot H p) (e : Ex H H') : Pot H' p := by
  obtain ⟨x, y, h, r⟩ := h
  exact ⟨x, y, e _ _ h, r⟩
theorem Drew.of {p : Addr} {H H' : Hp} (h : Pot H p) (e : Ex H H') : Drew p H H' := ⟨Ex.wo e, h.ex e⟩
theorem Drew.at {p a : Addr} {H H' : Hp} {o : HO} (d : Drew p H H') (n : a ≠ p) (h : H a = some o) : H' a = some o :=
  (wo_some (d.ex a o (by rw [wo_ne n]; exact h))).2
theorem Drew.set {p : Addr} {H : Hp} {o : HO} {x y : Int} (e : o = .lst [.int x, .int y]) (hx : 0 ≤ x) (hy : 0 ≤ y) (hy2 : y < 2147483648) : Drew p H (upd H p o) :=
  ⟨wo_upd (Ex.refl _), x, y, by rw [upd_same, e], hx, hy, hy2⟩
theorem fresh_drew {p q : Addr} {H H' : Hp} (d : Drew p H H') (hp : Pot H p) (h : H' q = none) : H q = none := by
  cases e : H q with
  | none => rfl
  | some o =>
    by_cases n : q = p
    · subst n
      obtain ⟨x, y, z, _⟩ := d.pot
      rw [z] at h
      cases h
    · rw [d.at n e] at h
      cases h
def spPot (K : PySem.W.Frag) : Sp := fun vs H Q _ => ∃ (a : Addr) (ns : List Int) (i : Nat), vs = [.ref a, .int (i : Int)] ∧ SqL K H a (ns.map V.int) ∧ i < 100 ∧ ∀ p H', H p = none → Ex H H' → Pot H' p → Q (.ref p) H'
def spDraw : Sp := fun vs H Q _ => ∃ (p : Addr) (b : Int), vs = [.ref p, .int b] ∧ 0 < b ∧ b.natAbs.log2 < 9000 ∧ Pot H p ∧ ∀ d H', 0 ≤ d → d < b → Drew p H H' → Q (.int d) H'
def spChoice : Sp := fun vs H Q _ => ∃ (p : Addr), Pot H p ∧
  ((∃ (o : Addr) (xs : List V), vs = [.ref p, .ref o] ∧ o ≠ p ∧ H o = some (.lst xs) ∧ 0 < xs.length ∧ xs.length ≤ 1000 ∧ ∀ v H', v ∈ xs → Drew p H H' → Q v H') ∨
   ∃ z : Str, vs = [.ref p, .str z] ∧ 0 < z.length ∧ z.length ≤ 1000 ∧ ∀ c H', c ∈ z.cps.toList → Drew p H H' → Q (.str ⟨#[c]⟩) H')
section
variable {P : Program} {w : World} {K : PySem.W.Frag} {mg : Str → Option Value} {base : Heap}
theorem ok_pot {f : Addr} {fd : FuncData} {k : Nat} (F : Fun K "_law_pot" "_law_pot" sPot f fd) (B : Blt mg) : FnG P w K mg base CX0 (k + 1) f fd ["_law_script", "_law_index"] (spPot K) := by
  refine okG F scPot (fun vs H Q E h => by obtain ⟨_, _, _, rfl, _⟩ := h; rfl) (fun cdv A outer s H vs Q E hq hr h => ?_)
  obtain ⟨a, ns, i, rfl, hS, hi, q⟩ := h
  refine ⟨_, pss_cons (ps_set (i := 2) scPot.nd rfl (.inl rfl) pe_int)
    (pss_cut (ps_if (pt_cmpR op_lt (pv 1) (pe_callB call_len_seq (by rfl) B.len bLen (pa_cons (pv 0) pa_nil)) (nomark _))
      (pss_one (ps_set (i := 2) scPot.nd rfl (.inl rfl) (pe_callB call_abs (by rfl) B.abs bAbs (pa_cons (pe_ix ix_list (pv 0) (pv 1) (fun _ _ => rfl)) pa_nil)))) pss_nil)
    (pss_one (ps_ret (pe_lst (pa_cons (pe_callB (call_max2 rfl) (by rfl) B.max bMax (pa_cons pe_int (pa_cons (pe_op op_sub (pv 2) (pe_op op_pow pe_int pe_int)) pa_nil)))
      (pa_cons (pe_op op_add (pe_op op_mod (pe_op op_pow (pe_op op_add (pe_op op_add (pe_op op_mod (pv 2) pe_int) (pe_op op_mul pe_int (pv 1))) pe_int) pe_int) pe_int) pe_int) pa_nil)))))), ?_⟩
  refine q_asg ev_c fun H1 e1 => ?_
  refine q_cut (M := fun σ H2 => ∃ c : Int, 0 ≤ c ∧ σ = [some (.ref a), some (.int i), some (.int c)] ∧ Ex H H2) ?_ ?_
  · refine s_when (et_test (ev_op (ev_var rfl) (ev_cb (ea_cons (ev_var rfl) ea_nil) (rc_lenL (ex_l e1 hS))) rv_I0)) (fun hb H2 e2 => ?_) (fun hb H2 e2 => ⟨0, Int.le_refl 0, rfl, e1.trans e2⟩)
    have hlt := of_decide_eq_true hb
    rw [List.length_map] at hlt
    have hlt2 : i < ns.length := by omega
    refine s_asg (v := .int (if ns[i] < 0 then -ns[i] else ns[i])) (ev_cb (ea_cons (ev_op (ev_var rfl) (ev_var rfl) (rv_ixL (ex_l (e1.trans e2) hS) (atI_nat (j := i) (v := .int ns[i]) (by rw [List.getElem?_map, List.getElem?_eq_getElem hlt2]; rfl)))) ea_nil) (fun H3 _ Q q => ⟨_, rfl, q H3 (Ex.refl H3)⟩)) fun H3 e3 => ?_
    exact ⟨_, by split <;> omega, rfl, (e1.trans e2).trans e3⟩
  · rintro σ H2 ⟨c, hc, rfl, e2⟩
    have hm : 0 ≤ c % 2147483629 ∧ c % 2147483629 < 2147483629 := ⟨Int.emod_nonneg _ (by decide), Int.emod_lt_of_pos _ (by decide)⟩
    have hz : (c % 2147483629 + 1013 * (i : Int) + 7).natAbs < 2 ^ 64 := by omega
    have hx : ∀ y : Int, 0 ≤ y % 2147483587 ∧ y % 2147483587 < 2147483587 := fun y => ⟨Int.emod_nonneg _ (by decide), Int.emod_lt_of_pos _ (by decide)⟩
    have hx1 := hx ((c % 2147483629 + 1013 * (i : Int) + 7) ^ (3 : Int).toNat)
    refine s_retL (el_lst (ea_cons (ev_cb (ea_cons ev_c (ea_cons (ev_op (ev_var rfl) (ev_op ev_c ev_c (rv_I ⟨by decide, by decide, by decide⟩)) rv_I0) ea_nil)) (fun H3 _ Q q => ⟨_, _, rfl, q H3 (Ex.refl H3)⟩))
      (ea_cons (ev_op (ev_op (ev_op (ev_op (ev_op (ev_op (ev_var rfl) ev_c (rv_I (by show (0 : Int) < 2147483629; decide))) (ev_op ev_c (ev_var rfl) (rv_I (.inl ⟨by decide, by decide⟩))) rv_I0) ev_c rv_I0) ev_c (rv_I ⟨by decide, by decide, hz⟩)) ev_c (rv_I (by show (0 : Int) < 2147483587; decide))) ev_c rv_I0) ea_nil)) (by show 2 ≤ 100000; decide)) fun p H3 hp e3 h3 => ?_
    refine q p H3 (fresh_back e2 hp) (e2.trans e3) ⟨_, _, h3, ?_, ?_, ?_⟩
    · split <;> omega
    · omega
    · omega
end
end Cr
namespace Cr
open PySem PySem.Spec PyProof.Rows L2 Evl
/-- the law's helpers as they are called: the promise, how it binds, where it stands -/
structure Has (P : Program) (w : World) (K : PySem.W.Frag) (mg : Str → Option Value) (base : Heap) (k : Nat) (x : Str) (ps : List Str) (sp : Sp) : Prop where
  ex : ∃ f fd, FnG P w K mg base CX0 k f fd ps sp ∧ Binds K fd ps [] ∧ PySem.W.keepIn K (.ref f) = true ∧ mg x = some (.ref f)
theorem divp_small {i j : Int} (h : 0 < j) (hj : j.natAbs.log2 < 9000) : CDivP i j := by
  refine ⟨h, ?_⟩
  show (decide ((if j == 0 then 0 else j.natAbs.log2 / 30 + 1) > 300) && decide ((if i == 0 then 0 else i.natAbs.log2 / 30 + 1) > (if j == 0 then 0 else j.natAbs.log2 / 30 + 1) + 150)) = false
  rw [if_neg (show ¬ (j == 0) = true by simpa using (show j ≠ 0 by omega)), decide_eq_false (show ¬ j.natAbs.log2 / 30 + 1 > 300 by omega), Bool.false_and]
section
variable {P : Program} {w : World} {K : PySem.W.Frag} {mg : Str → Option Value} {base : Heap}
theorem ok_draw {f : Addr} {fd : FuncData} {k : Nat} (F : Fun K "_law_draw" "_law_draw" sDraw f fd) (B : Blt mg) : FnG P w K mg base CX0 (k + 1) f fd ["_law_pot_here", "_law_bound"] spDraw := by
  refine okG F scDraw (fun vs H Q E h => by obtain ⟨_, _, rfl, _⟩ := h; rfl) (fun cdv A outer s H vs Q E hq hr h => ?_)
  obtain ⟨p, b, rfl, hb, hb2, ⟨x, y, hp, hx, hy, hy2⟩, q⟩ := h
  refine ⟨_, pss_cons (ps_if (pt_cmpR op_gt (pe_ix ix_list (pv 0) pe_int (fun _ _ => rfl)) pe_int (nomark _))
      (pss_cons (ps_asg (pe_callB call_divmodW (by rfl) B.divmod bDivmod (pa_cons (pe_ix ix_list (pv 0) pe_int (fun _ _ => rfl)) (pa_cons (pv 1) pa_nil)))
          (pg_tup rfl (pgs_cons (pg_sub (pv 0) pe_int set_list) (pgs_cons (pg_name (i := 2) scDraw.nd rfl (.inl rfl)) pgs_nil))))
        (pss_one (ps_ret (pv 2)))) pss_nil)
    (pss_cons (ps_asg (pe_op op_mod (pe_op op_add (pe_op op_mul (pe_ix ix_list (pv 0) pe_int (fun _ _ => rfl)) pe_int) pe_int) pe_int) (pg_sub (pv 0) pe_int set_list))
    (pss_one (ps_ret (pe_op op_mod (pe_op op_fdiv (pe_op op_mod (pe_op op_mul (pe_ix ix_list (pv 0) pe_int (fun _ _ => rfl)) (pe_ix ix_list (pv 0) pe_int (fun _ _ => rfl))) pe_int) pe_int) (pv 1))))), ?_⟩
  have i0 : atI [V.int x, V.int y] 0 = some (.int x) := atI_nat (j := 0) rfl
  have i1 : ∀ z : Int, atI [V.int x, V.int z] 1 = some (.int z) := fun z => atI_nat (j := 1) rfl
  refine q_when (et_test (ev_op (ev_op (ev_var rfl) ev_c (rv_ixL (sq_of hp) i0)) ev_c rv_I0)) (fun hc H1 e1 => ?_) (fun hc H1 e1 => ?_)
  · -- the digits
    have hx1 : 0 < x := of_decide_eq_true hc
    have hp1 := e1 _ _ hp
    refine ev_op (ev_var rfl) ev_c (rv_ixL (K := K) (sq_of hp1) i0) H1 (Ex.refl H1) _ fun H2 e2 => ?_
    refine ⟨.int b, rfl, x, b, rfl, divp_small hb hb2, fun t ht => ?_⟩
    have tp : p ≠ t := ne_of_none (e2 _ _ hp1) ht
    refine ⟨t, [.int (x / b), .int (x % b)], rfl, .inl (.inl upd_same), rfl, .int (x / b), [.int (x % b)], rfl, .ref p, rfl, p, [.int x, .int y], 0, 0, rfl, rfl, ?_, rfl, .int (x % b), [], rfl, rfl, .int (x % b), rfl, ?_⟩
    · rw [upd_ne tp]
      exact e2 _ _ hp1
    · refine q (x % b) _ (Int.emod_nonneg _ (by omega)) (Int.emod_lt_of_pos _ hb) ?_
      refine Drew.trans (H1 := upd H2 t (.tup [.int (x / b), .int (x % b)])) (Drew.of ⟨x, y, hp, hx, hy, hy2⟩ ((e1.trans e2).trans (Ex.new ht))) ?_
      exact Drew.set rfl (Int.ediv_nonneg hx (by omega)) hy hy2
  · have hp1 := e1 _ _ hp
    have m1 : 0 ≤ (y * 48271 + 10037) % 2147483587 ∧ (y * 48271 + 10037) % 2147483587 < 2147483587 := ⟨Int.emod_nonneg _ (by decide), Int.emod_lt_of_pos _ (by decide)⟩
    generalize ez : (y * 48271 + 10037) % 2147483587 = z at m1
    refine ev_op (z := .int ((y * 48271 + 10037) % 2147483587)) (ev_op (ev_op (ev_op (ev_var rfl) ev_c (rv_ixL (K := K) (sq_of hp1) (i1 y))) ev_c (rv_I (.inl ⟨by omega, by omega⟩))) ev_c rv_I0) ev_c (rv_I (by show (0 : Int) < 2147483587; decide)) H1 (Ex.refl H1) _ fun H2 e2 => ?_
    rw [ez]
    refine ⟨.ref p, rfl, p, [.int x, .int y], 1, 1, rfl, rfl, e2 _ _ hp1, rfl, ?_⟩
    have dr : Drew p H (upd H2 p (.lst [.int x, .int z])) := Drew.trans (H1 := H2) (Drew.of ⟨x, y, hp, hx, hy, hy2⟩ (e1.trans e2)) (Drew.set rfl hx m1.1 (by omega))
    have hp3 : (upd H2 p (.lst [.int x, .int z])) p = some (.lst [.int x, .int z]) := upd_same
    have ix : Ev (tOp (rIxL K) (tVar 0) (tC (.int 1))) [some (.ref p), some (.int b), none] (upd H2 p (.lst [.int x, .int z])) (.int z) := ev_op (ev_var rfl) ev_c (rv_ixL (sq_of hp3) (i1 z))
    refine s_ret (ev_op (ev_op (ev_op (ev_op ix ix (rv_I (.inl ⟨by omega, by omega⟩))) ev_c (rv_I (by show (0 : Int) < 2147483563; decide))) ev_c (rv_I ⟨by decide, by decide⟩)) (ev_var rfl) (rv_I (C := fun _ j => 0 < j) hb)) fun H3 e3 => ?_
    exact q _ H3 (Int.emod_nonneg _ (by omega)) (Int.emod_lt_of_pos _ hb) (dr.trans (Drew.of dr.pot e3))
theorem ok_choice {f : Addr} {fd : FuncData} {k : Nat} (F : Fun K "_law_choice" "_law_choice" sChoice f fd) (B : Blt mg) (D : Has P w K mg base k "_law_draw" ["_law_pot_here", "_law_bound"] spDraw) :
    FnG P w K mg base CX0 (k + 1) f fd ["_law_pot_here", "_law_options"] spChoice := by
  obtain ⟨fD, fdD, GD, bD, kD, gD⟩ := D.ex
  refine okG F scChoice (fun vs H Q E h => by obtain ⟨_, _, h⟩ := h; rcases h with ⟨_, _, rfl, _⟩ | ⟨_, rfl, _⟩ <;> rfl) (fun cdv A outer s H vs Q E hq hr h => ?_)
  obtain ⟨p, pot, h⟩ := h
  refine ⟨_, pss_one (ps_ret (pe_ix ix_seq (pv 1) (callG GD hq hr (by rfl) gD kD bD .nil pass0 (pa_cons (pv 0) (pa_cons (pe_callB call_len (by rfl) B.len bLen (pa_cons (pv 1) pa_nil)) pa_nil))) (fun _ _ => rfl))), ?_⟩
  have small : ∀ n : Nat, 0 < n → n ≤ 1000 → ((n : Int)).natAbs.log2 < 9000 := fun n h1 h2 => by
    have : (n : Int).natAbs = n := Int.natAbs_natCast n
    rw [this]
    have := (Nat.log2_lt (k := 10) (by omega)).mpr (show n < 2 ^ 10 by omega)
    omega
  rcases h with ⟨o, xs, rfl, ne, ho, h1, h2, q⟩ | ⟨z, rfl, h1, h2, q⟩
  · refine ⟨.ref o, rfl, .ref p, rfl, .ref o, rfl, .ref o, xs.length, rfl, .inl ⟨xs, sq_of ho, rfl⟩, p, (xs.length : Int), rfl, by omega, small _ h1 h2, pot, fun d H1 d0 d1 dr => ?_⟩
    obtain ⟨j, rfl⟩ := Int.eq_ofNat_of_zero_le d0
    have hj : j < xs.length := by omega
    exact .inl ⟨o, xs, (j : Int), xs[j], rfl, rfl, sq_of (dr.at ne ho), atI_nat (List.getElem?_eq_getElem hj), q _ H1 (List.getElem_mem hj) dr⟩
  · refine ⟨.str z, rfl, .ref p, rfl, .str z, rfl, .str z, z.length, rfl, ⟨sz_of (by omega), rfl⟩, p, (z.length : Int), rfl, by omega, small _ h1 h2, pot, fun d H1 d0 d1 dr => ?_⟩
    obtain ⟨j, rfl⟩ := Int.eq_ofNat_of_zero_le d0
    have hj : j < z.cps.toList.length := by
      have : z.cps.toList.length = z.length := by simp [Str.length]
      omega
    exact .inr (.inr ⟨z, (j : Int), z.cps.toList[j], rfl, rfl, sz_of (by omega), atI_nat (List.getElem?_eq_getElem hj), q _ H1 (List.getElem_mem hj) dr⟩)
end
end Cr
/-! what the top has left, gathered -/
namespace Cr
open PySem PySem.Spec PyProof.Rows L2 Evl
/-- a def of the top, as the head tells it -/
def DefAt (K : PySem.W.Frag) (x : Str) (st : Stmt) : Prop := ∃ (f : Addr) (od an : Option Addr) (sl : Array (Option Value)) (oc kV dc pm cd ct : Value),
  PySem.W.nsIn K mainGlobals x = some (some (.ref f)) ∧ K.lookup f = some ⟨oc, od, .func (PySem.W.fnOf x x (defArgs st) (defBody st) (defScope st) .none kV dc pm an cd ct), sl⟩ ∧ PySem.W.codeIn K cd x = true ∧ PySem.W.keepIn K (.ref f) = true
theorem defAt {K : PySem.W.Frag} {x : Str} {st : Stmt} {f : Addr} {od an : Option Addr} {sl : Array (Option Value)} {oc kV dc pm cd ct : Value} (a : PySem.W.nsIn K mainGlobals x = some (some (.ref f)))
    (l : K.lookup f = some ⟨oc, od, .func (PySem.W.fnOf x x (defArgs st) (defBody st) (defScope st) .none kV dc pm an cd ct), sl⟩) (c : PySem.W.codeIn K cd x = true) (k : PySem.W.keepIn K (.ref f) = true) : DefAt K x st :=
  ⟨f, od, an, sl, oc, kV, dc, pm, cd, ct, a, l, c, k⟩
/-- the binding of so many parameters -/
def BindsAll (x : Str) (st : Stmt) (ps : List Str) : Prop := ∀ (kV doc pm : Value) (an : Option Addr) (cdv ct : Value) (us : List Value), us.length = ps.length → bindArgs (PySem.W.fnOf x x (defArgs st) (defBody st) (defScope st) .none kV doc pm an cdv ct) ⟨us, []⟩ = pure (ps.zip us)
theorem has_mk {P : Program} {w : World} {K : PySem.W.Frag} {mg : Str → Option Value} {base h : Heap} {x : Str} {st : Stmt} {ps : List Str} {sp : Sp} {k : Nat} (X : K.In h) (G : h.Ns mainGlobals mg) (D : DefAt K x st) (hb : BindsAll x st ps)
    (ok : ∀ f fd, Fun K x x st f fd → FnG P w K mg base CX0 k f fd ps sp) : Has P w K mg base k x ps sp := by
  obtain ⟨f, od, an, sl, oc, kV, dc, pm, cd, ct, a, l, c, kp⟩ := D
  have F := fun_mk (st := st) l c kp
  exact ⟨⟨f, _, ok f _ F, F.binds hb, kp, PySem.W.mg_of X G a⟩⟩
theorem hasO_mk {P : Program} {w : World} {K : PySem.W.Frag} {mg : Str → Option Value} {base h : Heap} {x : Str} {st : Stmt} {ps : List Str} {sp : Sp} {k : Nat} (X : K.In h) (G : h.Ns mainGlobals mg) (D : DefAt K x st) (hb : BindsAll x st ps)
    (ok : ∀ f fd, Fun K x x st f fd → FnOk P w K mg base CX0 k f fd ps sp) : HasO P w K mg base k x ps sp := by
  obtain ⟨f, od, an, sl, oc, kV, dc, pm, cd, ct, a, l, c, kp⟩ := D
  have F := fun_mk (st := st) l c kp
  exact ⟨⟨f, _, ok f _ F, F.binds hb, kp, PySem.W.mg_of X G a⟩⟩
theorem hasE_mk {P : Program} {w : World} {K : PySem.W.Frag} {mg : Str → Option Value} {base h : Heap} {x : Str} {st : Stmt} {ps : List Str} {sp : Sp} {k : Nat} (X : K.In h) (G : h.Ns mainGlobals mg) (D : DefAt K x st) (hb : BindsAll x st ps)
    (ok : ∀ f fd, Fun K x x st f fd → FnOk P w K mg base (L2.CX P w) k f fd ps sp) : HasE P w K mg base k x ps sp := by
  obtain ⟨f, od, an, sl, oc, kV, dc, pm, cd, ct, a, l, c, kp⟩ := D
  have F := fun_mk (st := st) l c kp
  exact ⟨⟨f, _, ok f _ F, F.binds hb, kp, PySem.W.mg_of X G a⟩⟩
theorem Has.up {P : Program} {w : World} {K : PySem.W.Frag} {mg : Str → Option Value} {base : Heap} {x : Str} {ps : List Str} {sp : Sp} {j k : Nat} (h : Has P w K mg base j x ps sp) (le : j ≤ k) : Has P w K mg base k x ps sp := by
  obtain ⟨f, fd, G, b, kp, g⟩ := h.ex
  exact ⟨⟨f, fd, G.up le, b, kp, g⟩⟩
theorem HasC.up {P : Program} {w : World} {K : PySem.W.Frag} {mg : Str → Option Value} {base : Heap} {C : Addr} {j k : Nat} (h : HasC P w K mg base j C) (le : j ≤ k) : HasC P w K mg base k C := by
  obtain ⟨f, fd, G, b, b2, kp, g⟩ := h.ex
  exact ⟨⟨f, fd, fnUp G le, b, b2, kp, g⟩⟩
/-! ### tuples and the table of the top -/
theorem ktupV {K : PySem.W.Frag} {a : Addr} {xs : List Str} {its : List Value} {dd : Option Addr} {sl : Array (Option Value)} {n : Nat} (l : K.lookup a = some ⟨.type "tuple", dd, .seq its.toArray n, sl⟩) (v : Vals (xs.map V.str) its) (hz : xs.length ≤ 10) : KTup K a (xs.map V.str) := by
  refine ⟨_, _, _, l, rfl, rfl, ?_, by simpa using v⟩
  have := v.length
  rw [List.length_map] at this
  rw [List.size_toArray, ← this]
  exact sz_of (by omega)
theorem ktup0 {K : PySem.W.Frag} {a : Addr} {dd : Option Addr} {sl : Array (Option Value)} {n : Nat} (l : K.lookup a = some ⟨.type "tuple", dd, .seq #[] n, sl⟩) : KTup K a (([] : List Str).map V.str) := ktupV (xs := ([] : List Str)) l .nil (by show 0 ≤ 10; decide)
theorem ktup1 {K : PySem.W.Frag} {a : Addr} {x1 : Str} {t1 : Tok} {dd : Option Addr} {sl : Array (Option Value)} {n : Nat} (l : K.lookup a = some ⟨.type "tuple", dd, .seq #[.str x1 t1] n, sl⟩) : KTup K a (([x1] : List Str).map V.str) := ktupV (xs := ([x1] : List Str)) l (.cons ⟨t1, rfl⟩ .nil) (by show 1 ≤ 10; decide)
theorem ktup2 {K : PySem.W.Frag} {a : Addr} {x1 x2 : Str} {t1 t2 : Tok} {dd : Option Addr} {sl : Array (Option Value)} {n : Nat} (l : K.lookup a = some ⟨.type "tuple", dd, .seq #[.str x1 t1, .str x2 t2] n, sl⟩) : KTup K a (([x1, x2] : List Str).map V.str) := ktupV (xs := ([x1, x2] : List Str)) l (.cons ⟨t1, rfl⟩ (.cons ⟨t2, rfl⟩ .nil)) (by show 2 ≤ 10; decide)
theorem ktup3 {K : PySem.W.Frag} {a : Addr} {x1 x2 x3 : Str} {t1 t2 t3 : Tok} {dd : Option Addr} {sl : Array (Option Value)} {n : Nat} (l : K.lookup a = some ⟨.type "tuple", dd, .seq #[.str x1 t1, .str x2 t2, .str x3 t3] n, sl⟩) : KTup K a (([x1, x2, x3] : List Str).map V.str) := ktupV (xs := ([x1, x2, x3] : List Str)) l (.cons ⟨t1, rfl⟩ (.cons ⟨t2, rfl⟩ (.cons ⟨t3, rfl⟩ .nil))) (by show 3 ≤ 10; decide)
theorem ktup4 {K : PySem.W.Frag} {a : Addr} {x1 x2 x3 x4 : Str} {t1 t2 t3 t4 : Tok} {dd : Option Addr} {sl : Array (Option Value)} {n : Nat} (l : K.lookup a = some ⟨.type "tuple", dd, .seq #[.str x1 t1, .str x2 t2, .str x3 t3, .str x4 t4] n, sl⟩) : KTup K a (([x1, x2, x3, x4] : List Str).map V.str) := ktupV (xs := ([x1, x2, x3, x4] : List Str)) l (.cons ⟨t1, rfl⟩ (.cons ⟨t2, rfl⟩ (.cons ⟨t3, rfl⟩ (.cons ⟨t4, rfl⟩ .nil)))) (by show 4 ≤ 10; decide)
theorem nsIn_dict {K : PySem.W.Frag} {d : Addr} {oc : Value} {od : Option Addr} {es : List DictEntry} {n : Nat} {sl : Array (Option Value)} {z : Str} (l : K.lookup d = some ⟨oc, od, .dict es.toArray n, sl⟩) (any : es.any (·.refKey) = false) :
    PySem.W.nsIn K d z = some ((es.find? (·.key.isStr z)).map (·.val)) := by
  unfold PySem.W.nsIn
  rw [l]
  show (match es.find? (·.key.isStr z) with | some e => some (some e.val) | none => if es.any (·.refKey) = true then none else some none) = _
  rw [any]
  cases es.find? (·.key.isStr z) <;> rfl
theorem find_str {z k : Str} {h : Int} {t : Tok} {v : Value} {r : List DictEntry} : (⟨h, .str k t, v⟩ :: r : List DictEntry).find? (·.key.isStr z) = if z = k then some ⟨h, .str k t, v⟩ else r.find? (·.key.isStr z) := by
  rw [List.find?_cons]
  by_cases e : z = k
  · subst e
    rw [if_pos rfl, show (Value.str z t).isStr z = true by simp [Value.isStr]]
  · rw [if_neg e, show (Value.str k t).isStr z = false by simp [Value.isStr]; exact fun q => e q.symm]
theorem shapes_mk {K : PySem.W.Frag} {w : World} {dS : Addr} {n : Nat} {h1 h2 h3 h4 h5 h6 h7 h8 : Int} {t1 t2 t3 t4 t5 t6 t7 t8 : Tok} {a1 a2 a3 a4 a5 a6 a7 a8 : Addr}
    (l : K.lookup dS = some ⟨.type "dict", none, .dict #[⟨h1, .str "set" t1, .ref a1⟩, ⟨h2, .str "add" t2, .ref a2⟩, ⟨h3, .str "skip" t3, .ref a3⟩, ⟨h4, .str "export" t4, .ref a4⟩, ⟨h5, .str "read" t5, .ref a5⟩, ⟨h6, .str "need" t6, .ref a6⟩, ⟨h7, .str "try" t7, .ref a7⟩, ⟨h8, .str "fail" t8, .ref a8⟩] n, #[]⟩)
    (e1 : h1 = PyData.keyHash w.params "set") (e2 : h2 = PyData.keyHash w.params "add") (e3 : h3 = PyData.keyHash w.params "skip") (e4 : h4 = PyData.keyHash w.params "export") (e5 : h5 = PyData.keyHash w.params "read") (e6 : h6 = PyData.keyHash w.params "need") (e7 : h7 = PyData.keyHash w.params "try") (e8 : h8 = PyData.keyHash w.params "fail")
    (low : (dS == sysModules) = false)
    (k1 : KTup K a1 ((["variable", "integer"] : List Str).map V.str)) (k2 : KTup K a2 ((["variable", "variable"] : List Str).map V.str)) (k3 : KTup K a3 ((["variable", "length"] : List Str).map V.str)) (k4 : KTup K a4 ((["name", "variable"] : List Str).map V.str))
    (k5 : KTup K a5 ((["variable", "module", "name"] : List Str).map V.str)) (k6 : KTup K a6 ((["module"] : List Str).map V.str)) (k7 : KTup K a7 ((["module", "variable"] : List Str).map V.str)) (k8 : KTup K a8 (([] : List Str).map V.str)) :
    ∃ es, Shapes K w dS es n := by
  refine ⟨_, ⟨l, ?_, low⟩, fun z hz => ?_, fun z ks hz => ?_⟩
  · exact ⟨⟨_, _, rfl, e1⟩, ⟨_, _, rfl, e2⟩, ⟨_, _, rfl, e3⟩, ⟨_, _, rfl, e4⟩, ⟨_, _, rfl, e5⟩, ⟨_, _, rfl, e6⟩, ⟨_, _, rfl, e7⟩, ⟨_, _, rfl, e8⟩, trivial⟩
  all_goals
    have ns := nsIn_dict (z := z) l (by rfl)
    rw [find_str, find_str, find_str, find_str, find_str, find_str, find_str, find_str] at ns
    rw [ns]
    clear ns
    unfold shapeOf at hz
  · by_cases c1 : z = "set"
    · rw [if_pos c1] at hz; cases hz
    by_cases c2 : z = "add"
    · rw [if_neg c1, if_pos c2] at hz; cases hz
    by_cases c3 : z = "skip"
    · rw [if_neg c1, if_neg c2, if_pos c3] at hz; cases hz
    by_cases c4 : z = "export"
    · rw [if_neg c1, if_neg c2, if_neg c3, if_pos c4] at hz; cases hz
    by_cases c5 : z = "read"
    · rw [if_neg c1, if_neg c2, if_neg c3, if_neg c4, if_pos c5] at hz; cases hz
    by_cases c6 : z = "need"
    · rw [if_neg c1, if_neg c2, if_neg c3, if_neg c4, if_neg c5, if_pos c6] at hz; cases hz
    by_cases c7 : z = "try"
    · rw [if_neg c1, if_neg c2, if_neg c3, if_neg c4, if_neg c5, if_neg c6, if_pos c7] at hz; cases hz
    by_cases c8 : z = "fail"
    · rw [if_neg c1, if_neg c2, if_neg c3, if_neg c4, if_neg c5, if_neg c6, if_neg c7, if_pos c8] at hz; cases hz
    rw [if_neg c1, if_neg c2, if_neg c3, if_neg c4, if_neg c5, if_neg c6, if_neg c7, if_neg c8]
    rfl
  · by_cases c1 : z = "set"
    · rw [if_pos c1] at hz ⊢; cases hz; exact ⟨a1, rfl, k1⟩
    by_cases c2 : z = "add"
    · rw [if_neg c1, if_pos c2] at hz ⊢; cases hz; exact ⟨a2, rfl, k2⟩
    by_cases c3 : z = "skip"
    · rw [if_neg c1, if_neg c2, if_pos c3] at hz ⊢; cases hz; exact ⟨a3, rfl, k3⟩
    by_cases c4 : z = "export"
    · rw [if_neg c1, if_neg c2, if_neg c3, if_pos c4] at hz ⊢; cases hz; exact ⟨a4, rfl, k4⟩
    by_cases c5 : z = "read"
    · rw [if_neg c1, if_neg c2, if_neg c3, if_neg c4, if_pos c5] at hz ⊢; cases hz; exact ⟨a5, rfl, k5⟩
    by_cases c6 : z = "need"
    · rw [if_neg c1, if_neg c2, if_neg c3, if_neg c4, if_neg c5, if_pos c6] at hz ⊢; cases hz; exact ⟨a6, rfl, k6⟩
    by_cases c7 : z = "try"
    · rw [if_neg c1, if_neg c2, if_neg c3, if_neg c4, if_neg c5, if_neg c6, if_pos c7] at hz ⊢; cases hz; exact ⟨a7, rfl, k7⟩
    by_cases c8 : z = "fail"
    · rw [if_neg c1, if_neg c2, if_neg c3, if_neg c4, if_neg c5, if_neg c6, if_neg c7, if_pos c8] at hz ⊢; cases hz; exact ⟨a8, rfl, k8⟩
    rw [if_neg c1, if_neg c2, if_neg c3, if_neg c4, if_neg c5, if_neg c6, if_neg c7, if_neg c8] at hz
    cases hz
/-! ### methods -/
def MethAt (K : PySem.W.Frag) (C : Addr) (m qual : Str) (st : Stmt) : Prop := ∃ (f : Addr) (od an : Option Addr) (sl : Array (Option Value)) (oc kV dc pm cd ct : Value),
  PySem.W.findIn K (.ref C) m = some (some (.ref f)) ∧ PySem.W.isFn K (.ref f) = true ∧ K.lookup f = some ⟨oc, od, .func (PySem.W.fnOf m qual (defArgs st) (defBody st) (defScope st) .none kV dc pm an cd ct), sl⟩ ∧ PySem.W.codeIn K cd qual = true ∧ PySem.W.keepIn K (.ref f) = true ∧ PySem.W.typeIn K (.ref f) = some (.type "function")
theorem methAt {K : PySem.W.Frag} {C : Addr} {m qual : Str} {st : Stmt} {f : Addr} {od an : Option Addr} {sl : Array (Option Value)} {oc kV dc pm cd ct : Value} (a : PySem.W.findIn K (.ref C) m = some (some (.ref f))) (i : PySem.W.isFn K (.ref f) = true)
    (l : K.lookup f = some ⟨oc, od, .func (PySem.W.fnOf m qual (defArgs st) (defBody st) (defScope st) .none kV dc pm an cd ct), sl⟩) (c : PySem.W.codeIn K cd qual = true) (k : PySem.W.keepIn K (.ref f) = true) (t : PySem.W.typeIn K (.ref f) = some (.type "function")) : MethAt K C m qual st :=
  ⟨f, od, an, sl, oc, kV, dc, pm, cd, ct, a, i, l, c, k, t⟩
def BindsM (m qual : Str) (st : Stmt) (ps : List Str) : Prop := ∀ (kV doc pm : Value) (an : Option Addr) (cdv ct : Value) (us : List Value), us.length = ps.length → bindArgs (PySem.W.fnOf m qual (defArgs st) (defBody st) (defScope st) .none kV doc pm an cdv ct) ⟨us, []⟩ = pure (ps.zip us)
theorem hasM_mk {P : Program} {w : World} {K : PySem.W.Frag} {mg : Str → Option Value} {base : Heap} {CX : CXT} {C : Addr} {m qual : Str} {st : Stmt} {ps : List Str} {sp : Sp} {k : Nat} (D : MethAt K C m qual st) (hb : BindsM m qual st ps)
    (ok : ∀ f fd, Fun K m qual st f fd → FnOk P w K mg base CX k f fd ps sp) : HasM P w K mg base CX k C m ps sp := by
  obtain ⟨f, od, an, sl, oc, kV, dc, pm, cd, ct, a, i, l, c, kp, t⟩ := D
  have F := fun_mk (st := st) l c kp
  exact ⟨⟨f, _, ok f _ F, F.binds hb, a, i, kp⟩⟩
/-! ### own errors -/
def ErrK (P : Program) (K : PySem.W.Frag) (C : Addr) (b : XB) (qual fld : Str) (st : Stmt) : Prop := ∃ (fI cda cc : Addr) (oc : Value) (od an : Option Addr) (kV doc pm ct : Value) (osl : Array (Option Value)),
  K.lookup fI = some ⟨oc, od, .func (PySem.W.ksFn "__init__" qual (defArgs st) (defBody st) (defScope st) .none kV doc pm an (.ref cda) ct cc), osl⟩ ∧ PySem.W.codeIn K (.ref cda) qual = true ∧ SupG P K C cda cc b ∧
  PySem.W.findIn K (.ref C) "__init__" = some (some (.ref fI)) ∧ PySem.W.typeIn K (.ref fI) = some (.type "function") ∧ PySem.W.findIn K (.ref C) fld = some none
theorem errK {P : Program} {K : PySem.W.Frag} {C fI cda cc : Addr} {b : XB} {qual fld : Str} {st : Stmt} {oc : Value} {od an : Option Addr} {kV doc pm ct : Value} {osl : Array (Option Value)} (i : PySem.W.findIn K (.ref C) "__init__" = some (some (.ref fI)))
    (l : K.lookup fI = some ⟨oc, od, .func (PySem.W.ksFn "__init__" qual (defArgs st) (defBody st) (defScope st) .none kV doc pm an (.ref cda) ct cc), osl⟩) (c : PySem.W.codeIn K (.ref cda) qual = true) (s : SupG P K C cda cc b)
    (t : PySem.W.typeIn K (.ref fI) = some (.type "function")) (p : PySem.W.findIn K (.ref C) fld = some none) : ErrK P K C b qual fld st := ⟨fI, cda, cc, oc, od, an, kV, doc, pm, ct, osl, l, c, s, i, t, p⟩
theorem oexG_mk {K : PySem.W.Frag} {C : Addr} {b : XB} {nm q : Str} {N : Addr} {bs bm : List Value} {sn : List Str} {sub : List Value} {ab : Bool} {col : Option Bool} {dd : Option Addr} {k0 k1 k2 k3 k5 : Option Value} (ok : b.Ok)
    (l : K.lookup C = some (excClassObj nm q C N bs bm true sn sub ab col dd k0 k1 k2 k3 k5 b.nw)) (m : downTo b.tl bm = true) (sa : PySem.W.findIn K (.ref C) "__setattr__" = some (some (.builtin "object.__setattr__")))
    (ex : PySem.W.subIn K (.ref C) (.type "BaseException") = some true) (ty : PySem.W.typeIn K (.ref C) = some (.type "type")) (kC : PySem.W.keepIn K (.ref C) = true) : OexG K C b :=
  ⟨ok, ⟨nm, q, N, bs, bm, sn, sub, ab, col, dd, k0, k1, k2, k3, k5, l, m⟩, sa, ex, ty, kC⟩
theorem supG_mk {P : Program} {K : PySem.W.Frag} {C cda cc : Addr} {b : XB} {ccl : Value} {cdd : Option Addr} {cvs : Array Value} {ccs : Array (Option Value)} {file : Str} {tf : Tok} {cl : Value} {cld : Option Addr} {csl : Array (Option Value)} (o : OexG K C b)
    (a : K.lookup cda = some ⟨ccl, cdd, .fields cvs, ccs⟩) (f2 : cvs[2]? = some (.str file tf)) (c : ((P.main.file : Str) == file) = true) (d : K.lookup cc = some ⟨cl, cld, .cell (some (.ref C)), csl⟩) (e : PySem.W.mroIn K C (.ref C) = some true)
    (f : PySem.W.nsIn K cStatics "thirdparty.any" = some none) (g : PySem.W.ks_superIn K C C "__init__" = some (some (.builtin b.ini))) (h : PySem.W.subIn K (.ref C) (.type b.B) = some true) (i : (P.main.scope.names.lookup ("super" : Str)).isSome = false) : SupG P K C cda cc b :=
  ⟨o, ⟨ccl, cdd, cvs, ccs, file, tf, a, f2, c⟩, ⟨cl, cld, csl, d⟩, e, f, g, h, i⟩
theorem errAt_of {P : Program} {K : PySem.W.Frag} {mg : Str → Option Value} {h : Heap} {C : Addr} {b : XB} {cn qual fld : Str} {st : Stmt} (X : K.In h) (G : h.Ns mainGlobals mg) (c : PySem.W.nsIn K mainGlobals cn = some (some (.ref C))) (e : ErrK P K C b qual fld st) : ∃ fI fd, ErrAt P K mg C fI fd b cn qual fld st := by
  obtain ⟨fI, cda, cc, oc, od, an, kV, doc, pm, ct, osl, l, cd, s, i, t, p⟩ := e
  exact ⟨fI, _, ⟨cda, cc, oc, od, an, kV, doc, pm, ct, osl, rfl, l, cd, s⟩, i, t, p, PySem.W.mg_of X G c⟩
end Cr
/-! frames: pass_step -/
namespace Cr
open PySem PySem.Spec PyProof.Rows L2 Evl
inductive OtherV : List V → Prop
  | exp {n x : Str} : OtherV [.str "export", .str n, .str x]
  | read {x m n : Str} (h : isVar (.str x) = true) : OtherV [.str "read", .str x, .str m, .str n]
  | need {m : Str} : OtherV [.str "need", .str m]
  | try_ {m x : Str} (h : isVar (.str x) = true) : OtherV [.str "try", .str m, .str x]
  | fail : OtherV [.str "fail"]
theorem kinds8 {z : Str} {ks : List Str} (h : shapeOf z = some ks) : (z = "set" ∨ z = "add" ∨ z = "skip") ∨ z = "export" ∨ z = "read" ∨ z = "need" ∨ z = "try" ∨ z = "fail" := by
  unfold shapeOf at h
  repeat' split at h
  all_goals first
    | (rename_i e; simp [e]; done)
    | cases h
theorem other_of {us : List V} (h : StepV us) (hp : isPlain (.tuple (us.map flD)) = false) : OtherV us := by
  have hs := h.step
  have hb := h.bare
  unfold isPlain at hp
  rw [hs, Bool.true_and] at hp
  have str1 : ∀ {v : V}, isVar (flD v) = true → ∃ x, v = .str x := fun {v} h => by
    cases v with
    | str x => exact ⟨x, rfl⟩
    | _ => exact nomatch h
  have nam1 : ∀ {v : V}, isName (flD v) = true → ∃ x, v = .str x := fun {v} h => by
    cases v with
    | str x => exact ⟨x, rfl⟩
    | _ => exact nomatch h
  cases us with
  | nil => exact nomatch hs
  | cons v0 us =>
    cases v0 with
    | str z =>
      have hs' : isStep (.tuple (.str z :: us.map flD)) = true := hs
      obtain ⟨ks, hk⟩ : ∃ ks, shapeOf z = some ks := by
        cases e : shapeOf z with
        | some ks => exact ⟨ks, rfl⟩
        | none =>
          have zz : isStep (.tuple (.str z :: us.map flD)) = false := by
            show (match shapeOf z with | some ks => _ | none => false) = false
            rw [e]
          rw [zz] at hs'
          cases hs'
      have hp' : (plain3.any fun y => y == z) = false := hp
      have len : ∀ {ks : List Str}, shapeOf z = some ks → us.length = ks.length ∧ stepItems (us.map flD) ks = true := fun {ks} e => by
        rw [isStep_eq e] at hs'
        obtain ⟨a1, a2⟩ := Bool.and_eq_true_iff.mp hs'
        have := of_decide_eq_true a1
        rw [List.length_map] at this
        exact ⟨this, a2⟩
      rcases kinds8 hk with hz | rfl | rfl | rfl | rfl | rfl
      · rcases hz with rfl | rfl | rfl <;> exact absurd hp' (by decide +kernel)
      · obtain ⟨l, it⟩ := len sh_export
        match us, l with
        | [a, b], _ =>
          rw [List.map_cons, List.map_cons, List.map_nil, items2, it_name, it_var] at it
          obtain ⟨c1, c2⟩ := Bool.and_eq_true_iff.mp it
          obtain ⟨x, rfl⟩ := nam1 c1
          obtain ⟨y, rfl⟩ := str1 c2
          exact .exp
      · obtain ⟨l, it⟩ := len sh_read
        match us, l with
        | [a, b, c], _ =>
          rw [List.map_cons, List.map_cons, List.map_cons, List.map_nil, items3, it_var, it_mod, it_name] at it
          obtain ⟨c1, c23⟩ := Bool.and_eq_true_iff.mp it
          obtain ⟨c2, c3⟩ := Bool.and_eq_true_iff.mp c23
          obtain ⟨x, rfl⟩ := str1 c1
          obtain ⟨y, rfl⟩ := nam1 c2
          obtain ⟨u, rfl⟩ := nam1 c3
          exact .read c1
      · obtain ⟨l, it⟩ := len sh_need
        match us, l with
        | [a], _ =>
          rw [List.map_cons, List.map_nil, items1, it_mod] at it
          obtain ⟨x, rfl⟩ := nam1 it
          exact .need
      · obtain ⟨l, it⟩ := len sh_try
        match us, l with
        | [a, b], _ =>
          rw [List.map_cons, List.map_cons, List.map_nil, items2, it_mod, it_var] at it
          obtain ⟨c1, c2⟩ := Bool.and_eq_true_iff.mp it
          obtain ⟨x, rfl⟩ := nam1 c1
          obtain ⟨y, rfl⟩ := str1 c2
          exact .try_ c2
      · obtain ⟨l, it⟩ := len sh_fail
        match us, l with
        | [], _ => exact .fail
    | _ =>
      rw [List.all_cons] at hb
      first
        | exact nomatch hs
        | exact nomatch hb
end Cr
/-! the law's own: texts, names, numbers, steps -/
namespace Cr
open PySem PySem.Spec PyProof.Rows L2 Evl
/-! ### texts of letters -/
theorem join_cps : ∀ ws : List Str, (Txt.join ("" : Str) ws).cps.toList = ws.flatMap fun w => w.cps.toList := by
  have e0 : (("" : Str)).cps.toList = [] := by decide +kernel
  have h : ∀ ws : List Str, (Str.join ("" : Str) ws).cps.toList = ws.flatMap fun w => w.cps.toList := by
    intro ws
    induction ws with
    | nil => rfl
    | cons x r ih =>
      cases r with
      | nil => simp [Str.join]
      | cons y r =>
        rw [show Str.join ("" : Str) (x :: y :: r) = x ++ "" ++ Str.join "" (y :: r) from rfl, Str.cps_append, Str.cps_append, Array.toList_append, Array.toList_append, ih, e0, List.append_nil]
        simp
  intro ws
  rw [TL.join_eq]
  exact h ws
theorem len_toList (x : Str) : x.cps.toList.length = x.length := by simp [Str.length]
theorem name_of {x : Str} {cs : List Nat} (e : x.cps.toList = cs) (h1 : 1 ≤ cs.length) (h2 : cs.length ≤ 8) (h : ∀ c ∈ cs, isLow c = true) : isNameS x = true := by
  have l := len_toList x
  rw [e] at l
  unfold isNameS
  rw [e, decide_eq_true (show (1 : Int) ≤ x.length by omega), decide_eq_true (show (x.length : Int) ≤ 8 by omega), List.all_eq_true.mpr h]
  rfl
def isOne (w : Str) : Prop := ∃ c, w = ⟨#[c]⟩ ∧ isLow c = true
theorem join_ones : ∀ {ws : List Str}, (∀ w ∈ ws, isOne w) → ∃ cs : List Nat, (ws.flatMap fun w => w.cps.toList) = cs ∧ cs.length = ws.length ∧ ∀ c ∈ cs, isLow c = true
  | [], _ => ⟨[], rfl, rfl, by simp⟩
  | w :: r, h => by
    obtain ⟨c, rfl, hc⟩ := h w (List.mem_cons_self ..)
    obtain ⟨cs, e, l, ha⟩ := join_ones fun w hw => h w (List.mem_cons_of_mem _ hw)
    refine ⟨c :: cs, ?_, by simp [l], ?_⟩
    · rw [List.flatMap_cons, e]; rfl
    · intro d hd
      rcases List.mem_cons.mp hd with rfl | hd
      · exact hc
      · exact ha d hd
abbrev abc : Str := "abcdefghijklmnopqrstuvwxyz"
theorem abc_get (i : Nat) (h : i < 26) : abc.cps.toList[i]? = some (97 + i) := by
  have : ∀ i < 26, abc.cps.toList[i]? = some (97 + i) := by decide +kernel
  exact this i h
theorem low_of {i : Nat} (h : i < 26) : isLow (97 + i) = true := by
  unfold isLow
  rw [decide_eq_true (show 97 ≤ 97 + i by omega), decide_eq_true (show 97 + i ≤ 122 by omega)]; rfl
/-- pigeons -/
theorem pigeon : ∀ {ws us : List Str}, ws.Nodup → (∀ w ∈ ws, w ∈ us) → ws.length ≤ us.length
  | [], _, _, _ => Nat.zero_le _
  | w :: ws, us, nd, h => by
    have hw := h w (List.mem_cons_self ..)
    rw [List.nodup_cons] at nd
    have ih := pigeon (us := us.erase w) nd.2 fun x hx => (List.mem_erase_of_ne (fun e : x = w => nd.1 (by rw [← e]; exact hx))).mpr (h x (List.mem_cons_of_mem _ hx))
    rw [List.length_erase_of_mem hw] at ih
    have : 0 < us.length := List.length_pos_of_mem hw
    rw [List.length_cons]
    omega
def spare (i : Nat) : Str := ⟨#[97 + i / 26, 97 + i % 26, 113]⟩
theorem spare_name (i : Nat) (h : i < 676) : isNameS (spare i) = true := by
  refine name_of (x := spare i) (cs := [97 + i / 26, 97 + i % 26, 113]) rfl (by simp) (by simp) fun c hc => ?_
  simp only [List.mem_cons, List.not_mem_nil, or_false] at hc
  rcases hc with rfl | rfl | rfl
  · exact low_of (by omega)
  · exact low_of (by omega)
  · rfl
theorem inV_mem {z : Str} {us : List Str} : inV (.str z) (us.map V.str) = true ↔ z ∈ us := by
  rw [inV_strs, List.any_eq_true]
  constructor
  · rintro ⟨x, hx, e⟩
    rw [beq_iff_eq] at e
    exact e ▸ hx
  · intro h
    exact ⟨z, h, beq_self_eq_true z⟩
theorem Drew.mut {p D : Addr} {H H' : Hp} {o : HO} (d : Drew p H H') (hD : H D = none) (n : D ≠ p) : Drew p H (upd H' D o) := by
  refine ⟨fun a u h => ?_, ?_⟩
  · have hn := (wo_some h).1
    have hD' : a ≠ D := ne_of_none (wo_some h).2 hD
    have q := d.ex a u h
    rw [wo_ne hn] at q ⊢
    rw [upd_ne hD']
    exact q
  · obtain ⟨x, y, z, r⟩ := d.pot
    exact ⟨x, y, by rw [upd_ne n.symm]; exact z, r⟩
theorem Drew.neq {p q : Addr} {H H' : Hp} (d : Drew p H H') (h : H' q = none) : q ≠ p := fun e => by
  obtain ⟨x, y, z, _⟩ := d.pot
  rw [← e, h] at z
  cases z
theorem Drew.new {p q : Addr} {H H' : Hp} {o : HO} (d : Drew p H H') (h : H' q = none) : Drew p H (upd H' q o) := d.trans (Drew.of d.pot (Ex.new h))
/-- an int of at most thirty digits -/
def spInteger : Sp := fun vs H Q _ => ∃ p : Addr, vs = [.ref p] ∧ Pot H p ∧ ∀ (i : Int) H', i.natAbs ≤ 10 ^ 30 → Drew p H H' → Q (.int i) H'
/-- ints of a step are not too great -/
def intsIn (us : List V) : Prop := ∀ i : Int, V.int i ∈ us → i.natAbs ≤ 10 ^ 30
theorem Drew.tps {p : Addr} {H H' : Hp} (d : Drew p H H') (hp : Pot H p) : Tps H H' := fun a xs h => d.at (fun e => by
  obtain ⟨x, y, z, _⟩ := hp
  rw [e, z] at h
  cases h) h
end Cr
/-! words of the law: _law_word, _law_words, as fourteen laws draw them -/
namespace Cr
open PySem PySem.Spec PyProof.Rows L2 Evl
abbrev sWord1 : Stmt := topS 34
abbrev sWords1 : Stmt := topS 35
abbrev nWord1 : List Str := ["_law_pot_here", "_law_used", "_law_letters", "_law_size", "_law_word_here", "_law_spare", "_law_turn", "_law_at", "_law_one"]
abbrev nWords1 : List Str := ["_law_pot_here", "_law_number", "_law_found", "_law_turn"]
theorem scWord1 : FnScope nWord1 ["_law_pot_here", "_law_used"] (defScope sWord1) := ⟨rfl, rfl, rfl, by decide +kernel, rfl, by decide +kernel, by decide +kernel⟩
theorem scWords1 : FnScope nWords1 ["_law_pot_here", "_law_number"] (defScope sWords1) := ⟨rfl, rfl, rfl, by decide +kernel, rfl, by decide +kernel, by decide +kernel⟩
theorem spare_inj {i j : Nat} (h : spare i = spare j) : i = j := by
  have e : (spare i).cps.toList = (spare j).cps.toList := by rw [h]
  have e' : [97 + i / 26, 97 + i % 26, 113] = [97 + j / 26, 97 + j % 26, 113] := e
  injection e' with e1 e2
  injection e2 with e2 _
  omega
theorem spare_nd2 (n : Nat) : ((List.range n).map spare).Nodup := List.Pairwise.map spare (fun _ _ h z => h (spare_inj z)) List.nodup_range
theorem spare_free2 {us : List Str} (h : us.length ≤ 600) : ∃ i, i < 676 ∧ spare i ∉ us := by
  refine Classical.byContradiction fun n => ?_
  have all : ∀ w ∈ (List.range 676).map spare, w ∈ us := fun w hw => by
    obtain ⟨i, hi, rfl⟩ := List.mem_map.mp hw
    exact Classical.byContradiction fun z => n ⟨i, List.mem_range.mp hi, z⟩
  have := pigeon (spare_nd2 676) all
  rw [List.length_map, List.length_range] at this
  omega
def spWord : Sp := fun vs H Q _ => ∃ (p u : Addr) (us : List Str), vs = [.ref p, .ref u] ∧ Pot H p ∧ u ≠ p ∧ H u = some (.lst (us.map V.str)) ∧ us.length ≤ 600 ∧ ∀ x H', isNameS x = true → x ∉ us → Drew p H H' → Q (.str x) H'
def spWords : Sp := fun vs H Q _ => ∃ (p : Addr) (n : Nat), vs = [.ref p, .int (n : Int)] ∧ Pot H p ∧ n ≤ 600 ∧
  ∀ (l : Addr) (xs : List Str) (H' : Hp), H l = none → H' l = some (.lst (xs.map V.str)) → xs.length = n → xs.Nodup → (∀ x ∈ xs, isNameS x = true) → Drew p H H' → Q (.ref l) H'
abbrev ten : List Str := ["module", "need", "try", "fail", "act", "thread", "retry", "unload", "ready", "a"]
theorem ten_name : ∀ x ∈ ten, isNameS x = true := by decide +kernel
theorem ten_get (j : Nat) (h : j < 10) : ∃ x, (ten.map V.str)[j]? = some (.str x) ∧ isNameS x = true := by
  have hl : j < ten.length := h
  exact ⟨ten[j], by rw [List.getElem?_map, List.getElem?_eq_getElem hl]; rfl, ten_name _ (List.getElem_mem hl)⟩
section
variable {P : Program} {w : World} {K : PySem.W.Frag} {mg : Str → Option Value} {base : Heap}
theorem ok_word1 {f : Addr} {fd : FuncData} {k : Nat} (F : Fun K "_law_word" "_law_word" sWord1 f fd) (B : Blt mg) (D : Has P w K mg base k "_law_draw" ["_law_pot_here", "_law_bound"] spDraw) :
    FnG P w K mg base CX0 (k + 1) f fd ["_law_pot_here", "_law_used"] spWord := by
  obtain ⟨fD, fdD, GD, bD, kD, gD⟩ := D.ex
  refine okG F scWord1 (fun vs H Q E h => by obtain ⟨_, _, _, rfl, _⟩ := h; rfl) (fun cdv A outer s H vs Q E hq hr h => ?_)
  obtain ⟨p, u, us, rfl, pot, un, hu, hl, q⟩ := h
  refine ⟨_, pss_cons (ps_set (i := 2) scWord1.nd rfl (.inr rfl) pe_str)
    (pss_cons (ps_set (i := 3) scWord1.nd rfl (.inl rfl) (pe_ix ix_list (pe_lst (pa_cons pe_int (pa_cons pe_int (pa_cons pe_int (pa_cons pe_int (pa_cons (pe_op op_add pe_int (callG GD hq hr (by rfl) gD kD bD .nil pass0 (pa_cons (pv 0) (pa_cons pe_int pa_nil)))) pa_nil)))))) (callG GD hq hr (by rfl) gD kD bD .nil pass0 (pa_cons (pv 0) (pa_cons pe_int pa_nil))) (fun _ _ => rfl)))
    (pss_cons (ps_set (i := 4) scWord1.nd rfl (.inl rfl) (pe_join pe_str (pe_lc (own := [("_law_turn", 6)]) (g := gName 6) (tt := tYes) rfl scWord1.nd (pi_range1 (by rfl) B.range (pa_cons (pv 3) pa_nil)) (blkOk_by (own := [("_law_turn", 6)]) (N := nWord1) (sc := defScope sWord1) (by decide +kernel))
        (fun _ _ _ _ _ => pg_name (i := 6) scWord1.nd rfl (Or.inl rfl)) (fun _ _ _ _ _ => pts_nil) (fun _ _ _ _ _ => pe_ix ix_str (pv 2) (callG GD hq hr (by rfl) gD kD bD .nil pass0 (pa_cons (pv 0) (pa_cons pe_int pa_nil))) (fun _ _ => rfl)))))
    (pss_cut (ps_if (pt_cmpR op_eq (callG GD hq hr (by rfl) gD kD bD .nil pass0 (pa_cons (pv 0) (pa_cons pe_int pa_nil))) pe_int (nomark _))
      (pss_one (ps_set (i := 4) scWord1.nd rfl (.inl rfl) (pe_ix ix_list (pe_lst (pa_cons pe_str (pa_cons pe_str (pa_cons pe_str (pa_cons pe_str (pa_cons pe_str (pa_cons pe_str (pa_cons pe_str (pa_cons pe_str (pa_cons pe_str (pa_cons pe_str pa_nil))))))))))) (callG GD hq hr (by rfl) gD kD bD .nil pass0 (pa_cons (pv 0) (pa_cons pe_int pa_nil))) (fun _ _ => rfl)))) pss_nil)
    (pss_cons (ps_if (pt_cmpR op_in_seq (pv 4) (pv 1) (by rfl))
      (pss_cons (ps_setLc (i := 5) (own := [("_law_at", 7)]) (g := gName 7) (tt := tYes) rfl scWord1.nd rfl rfl (sw_true rfl rfl rfl (by decide +kernel)) (pi_range1 (by rfl) B.range (pa_cons pe_int pa_nil)) (blkOk_by (own := [("_law_at", 7)]) (N := nWord1) (sc := defScope sWord1) (by decide +kernel))
        (fun _ _ _ _ _ => pg_name (i := 7) scWord1.nd rfl (Or.inl rfl)) (fun _ _ _ _ _ => pts_nil)
        (fun _ _ _ _ _ => pe_op op_add_str (pe_op op_add_str (pe_ix ix_str (pv 2) (pe_op op_fdiv (pv 7) pe_int) (fun _ _ => rfl)) (pe_ix ix_str (pv 2) (pe_op op_mod (pv 7) pe_int) (fun _ _ => rfl))) pe_str))
      (pss_one (ps_ret (pe_ix ix_list (pe_lc (own := [("_law_one", 8)]) (g := gName 8) (tt := tTest (tOp (rIn K true) (tVar 8) (tVar 1))) rfl scWord1.nd (pi_list (pv 5)) (blkOk_by (own := [("_law_one", 8)]) (N := nWord1) (sc := defScope sWord1) (by decide +kernel))
        (fun _ _ _ _ _ => pg_name (i := 8) scWord1.nd rfl (Or.inl rfl)) (fun _ _ _ _ _ => by exact pts_one (pt_cmpR op_notIn_seq (pv 8) (pv 1) (by rfl))) (fun _ _ _ _ _ => pv 8)) pe_int (fun _ _ => rfl))))) pss_nil)
    (pss_one (ps_ret (pv 4))))))), ?_⟩
  refine q_asg ev_c fun H0 e0 => ?_
  have r0 : Drew p H H0 := Drew.of pot e0
  refine q_asgAny ⟨.ref p, rfl, p, 8, rfl, by decide, by decide +kernel, r0.pot, fun c1 H1 a1 b1 r1 => ⟨1, c1, rfl, rfl, by show 5 ≤ sizeLine; decide, fun o ho => ?_⟩⟩
  have r01 := r0.trans r1
  have on : o ≠ p := r01.neq ho
  have r1' : Drew p H (upd H1 o (.lst [.int 1, .int 1, .int 2, .int 8, .int (1 + c1)])) := r01.new ho
  refine ⟨.ref p, rfl, p, 5, rfl, by decide, by decide +kernel, r1'.pot, fun d2 H2 a2 b2 r2 => ?_⟩
  obtain ⟨sz, hsz, s1, s8⟩ : ∃ sz : Nat, atI [V.int 1, V.int 1, V.int 2, V.int 8, V.int (1 + c1)] d2 = some (.int (sz : Int)) ∧ 1 ≤ sz ∧ sz ≤ 8 := by
    obtain ⟨j, rfl⟩ := Int.eq_ofNat_of_zero_le a2
    have hj : j = 0 ∨ j = 1 ∨ j = 2 ∨ j = 3 ∨ j = 4 := by omega
    rcases hj with rfl | rfl | rfl | rfl | rfl
    · exact ⟨1, atI_nat rfl, by omega, by omega⟩
    · exact ⟨1, atI_nat rfl, by omega, by omega⟩
    · exact ⟨2, atI_nat rfl, by omega, by omega⟩
    · exact ⟨8, atI_nat rfl, by omega, by omega⟩
    · refine ⟨(1 + c1).toNat, atI_nat (v := V.int (1 + c1)) rfl |>.trans ?_, by omega, by omega⟩
      congr 2; omega
  have r12 := r1'.trans r2
  refine ⟨o, _, d2, .int sz, rfl, rfl, sq_of (r2.at on upd_same), hsz, ?_⟩
  refine q_asgAny ⟨⟨"", rfl⟩, .int (sz : Int), rfl, sz, rfl, by omega, by omega, fun Dl hD => ?_⟩
  have Dn : Dl ≠ p := r12.neq hD
  have HD : H Dl = none := fresh_drew r12 pot hD
  refine lc_range (lo := 0) (n := (sz : Int).toNat) (fun i H3 => ∃ ws : List Str, H3 Dl = some (.lst (ws.map V.str)) ∧ ws.length = i ∧ (∀ w ∈ ws, isOne w) ∧ Drew p H H3)
    ⟨[], upd_same, rfl, by simp, r12.mut HD Dn⟩ (fun i H3 hi hP => ?_) (fun H3 hP => ?_)
  · obtain ⟨ws, hw, hlw, hone, dr⟩ := hP
    refine ⟨rfl, .str abc, rfl, .ref p, rfl, p, 26, rfl, by decide, by decide +kernel, dr.pot, fun d H4 da db dr4 => ?_⟩
    obtain ⟨j, rfl⟩ := Int.eq_ofNat_of_zero_le da
    have hj : j < 26 := by omega
    refine ⟨abc, (j : Int), 97 + j, rfl, rfl, by decide +kernel, atI_nat (abc_get j hj), ws.map V.str, dr4.at Dn hw, sz_lt (by rw [List.length_map]; omega), ws ++ [⟨#[97 + j]⟩], ?_, by simp [hlw], ?_, (dr.trans dr4).mut HD Dn⟩
    · rw [upd_same, List.map_append]; rfl
    · intro w hw'
      rcases List.mem_append.mp hw' with z | z
      · exact hone w z
      · rw [List.mem_singleton.mp z]
        exact ⟨97 + j, rfl, low_of hj⟩
  obtain ⟨ws, hw, hlw, hone, dr⟩ := hP
  obtain ⟨cs, ecs, lcs, hcs⟩ := join_ones hone
  have nm : isNameS (Txt.join "" ws) = true := name_of ((join_cps ws).trans ecs) (by omega) (by omega) hcs
  have lone : ∀ {ws : List Str}, (∀ w ∈ ws, isOne w) → (ws.map (·.length)).sum = ws.length := by
    intro ws
    induction ws with
    | nil => intro _; rfl
    | cons x r ih =>
      intro h
      obtain ⟨c, rfl, _⟩ := h _ (List.mem_cons_self ..)
      rw [List.map_cons, List.sum_cons, ih fun w hw => h w (List.mem_cons_of_mem _ hw), List.length_cons]
      show 1 + r.length = r.length + 1
      omega
  refine ⟨"", Dl, ws, rfl, rfl, .inl (sq_of hw), ?_, ?_⟩
  · have e0 : (("" : Str)).length = 0 := by decide +kernel
    rw [lone hone, e0]
    omega
  generalize hx : Txt.join ("" : Str) ws = x at nm
  refine q_cut (M := fun σ H' => ∃ x : Str, σ = [some (.ref p), some (.ref u), some (.str abc), some (.int (sz : Int)), some (.str x), none, none, none, none] ∧ isNameS x = true ∧ Drew p H H') ?_ ?_
  · refine ⟨.ref p, rfl, p, 12, rfl, by decide, by decide +kernel, dr.pot, fun c H5 c0 c12 r5 => ⟨rfl, _, rfl, ?_⟩⟩
    have r05 := dr.trans r5
    by_cases hc : V.int c = V.int 0
    · rw [decide_eq_true hc]
      refine ⟨by show 10 ≤ sizeLine; decide, fun o2 ho2 => ?_⟩
      have r06 : Drew p H (upd H5 o2 (.lst (ten.map V.str))) := r05.new ho2
      refine ⟨.ref p, rfl, p, 10, rfl, by decide, by decide +kernel, r06.pot, fun d H6 d0 d10 r6 => ?_⟩
      obtain ⟨j, rfl⟩ := Int.eq_ofNat_of_zero_le d0
      obtain ⟨y, hy, ny⟩ := ten_get j (by omega)
      exact ⟨o2, _, (j : Int), .str y, rfl, rfl, sq_of (r6.at (r05.neq ho2) upd_same), atI_nat hy, y, rfl, ny, r06.trans r6⟩
    · rw [decide_eq_false hc]
      exact ⟨x, rfl, nm, r05⟩
  rintro σ H4 ⟨x, rfl, nm, dr⟩
  have hu4 := dr.at un hu
  refine q_when (σ := [some (.ref p), some (.ref u), some (.str abc), some (.int (sz : Int)), some (.str x), none, none, none, none]) (et_test (ev_op (ev_var rfl) (ev_var rfl) (rv_isL (sq_of hu4) rfl (flat_strs _)))) (fun hb H5 e5 => ?_) (fun hb H5 e5 => s_ret (ev_var rfl) fun H6 e6 => q x H6 nm (fun z => by rw [inV_mem.mpr z] at hb; cases hb) (dr.trans (Drew.of dr.pot (e5.trans e6))))
  -- the spare ones
  have lc1 := el_lcW (wi := iRng1 (tCons (tC (.int 676)) tNil)) (g := gName 7) (tt := tYes) (te := tOp _ (tOp _ (tOp rIxS (tVar 2) (tOp (rI CDiv fun i j => .int (i / j)) (tVar 7) (tC (.int 26)))) (tOp rIxS (tVar 2) (tOp (rI (fun _ j => 0 < j) fun i j => .int (i % j)) (tVar 7) (tC (.int 26))))) (tC (.str "q"))) (vs := [7])
    (σ := [some (.ref p), some (.ref u), some (.str abc), some (.int (sz : Int)), some (.str x), none, none, none, none]) (H := H5) (n := 676) (Y := YFn fun i => .int (0 + i)) (fun _ => true) (fun i => .str (spare i)) (by decide)
    (fun H6 e6 R r => ⟨676, rfl, by decide, by decide, r H6 _ _ walk_range (fun _ _ _ z => z) (Ex.refl H6) trivial⟩)
    (fun i y H6 H7 e6 hi hy => by
      obtain ⟨rfl, rfl⟩ := hy
      refine ⟨Ex.refl _, [some (.ref p), some (.ref u), some (.str abc), some (.int (sz : Int)), some (.str x), none, none, some (.int (0 + i)), none], rfl, fun R r => r, fun H8 _ Q q => q H8 (Ex.refl H8), fun _ => ?_⟩
      have e0 : (0 : Int) + (i : Int) = (i : Int) := Int.zero_add _
      rw [e0]
      have ed : ((i : Int) / 26) = ((i / 26 : Nat) : Int) := by omega
      have em : ((i : Int) % 26) = ((i % 26 : Nat) : Int) := by omega
      have i1 : i / 26 < 26 := by omega
      have i2 : i % 26 < 26 := by omega
      refine ev_op (r := fun x y H Q => ∃ i j, x = .str i ∧ y = .str j ∧ i.length + j.length ≤ sizeLine ∧ Q (.str (i ++ j)) H) (x := .str (⟨#[97 + i / 26]⟩ ++ ⟨#[97 + i % 26]⟩))
        (ev_op (r := fun x y H Q => ∃ i j, x = .str i ∧ y = .str j ∧ i.length + j.length ≤ sizeLine ∧ Q (.str (i ++ j)) H)
          (ev_op (ev_var rfl) (ev_op (ev_var rfl) ev_c (rv_I ⟨by decide, by decide⟩)) (rv_ixS (by decide +kernel) (by rw [ed]; exact atI_nat (abc_get _ i1))))
          (ev_op (ev_var rfl) (ev_op (ev_var rfl) ev_c (rv_I (C := fun _ j => 0 < j) (by decide))) (rv_ixS (by decide +kernel) (by rw [em]; exact atI_nat (abc_get _ i2))))
          (rv_val fun H8 _ Q q => ⟨_, _, rfl, rfl, by show 2 ≤ sizeLine; decide, q⟩)) ev_c (rv_val fun H8 _ Q q => ⟨_, _, rfl, rfl, by show 3 ≤ sizeLine; decide, q⟩))
  have eg1 : given 676 (fun _ => true) (fun i => V.str (spare i)) = ((List.range 676).map spare).map V.str := by
    rw [given_all, List.map_map]; rfl
  rw [eg1] at lc1
  refine q_asgL lc1 fun L H6 hL e6 h6 => ?_
  have hu6 := e6 _ _ (e5 _ _ hu4)
  have lc2 := el_lcW (wi := iList K (tVar 5)) (g := gName 8) (tt := tTest (tOp (rIn K true) (tVar 8) (tVar 1))) (te := tVar 8) (vs := [8])
    (σ := [some (.ref p), some (.ref u), some (.str abc), some (.int (sz : Int)), some (.str x), some (.ref L), none, none, none]) (H := H6) (n := 676) (Y := YAt (((List.range 676).map spare).map V.str)) (fun i => !inV (.str (spare i)) (us.map V.str)) (fun i => .str (spare i)) (by decide)
    (fun H7 e7 R r => ⟨.ref L, rfl, L, rfl, ⟨_, sq_of (e7 _ _ h6)⟩, r H7 _ _ (by have z := walk_list (K := K) (a := L) (xs := ((List.range 676).map spare).map V.str); rw [List.length_map, List.length_map, List.length_range] at z; exact z) (fun _ _ e z => ex_l e z) (Ex.refl H7) (sq_of (e7 _ _ h6))⟩)
    (fun i y H7 H8 e7 hi hy => by
      obtain ⟨rfl, hy⟩ := hy
      have ey : y = .str (spare i) := by
        rw [List.getElem?_map, List.getElem?_map, List.getElem?_range hi] at hy
        exact (Option.some.inj hy).symm
      subst ey
      exact ⟨Ex.refl _, [some (.ref p), some (.ref u), some (.str abc), some (.int (sz : Int)), some (.str x), some (.ref L), none, none, some (.str (spare i))], rfl, fun R r => r, et_test (ev_op (ev_var rfl) (ev_var rfl) (rv_niL (sq_of (e7 _ _ hu6)) rfl (flat_strs _))), fun _ => ev_var rfl⟩)
  obtain ⟨i0, hi0, fi0⟩ := spare_free2 hl
  have mem : V.str (spare i0) ∈ given 676 (fun i => !inV (.str (spare i)) (us.map V.str)) (fun i => .str (spare i)) := by
    unfold given
    refine List.mem_map.mpr ⟨i0, List.mem_filter.mpr ⟨List.mem_range.mpr (by omega), ?_⟩, rfl⟩
    rw [Bool.not_eq_true']
    exact Bool.eq_false_iff.mpr fun z => fi0 (inV_mem.mp z)
  cases eg : given 676 (fun i => !inV (.str (spare i)) (us.map V.str)) (fun i => V.str (spare i)) with
  | nil => rw [eg] at mem; cases mem
  | cons y r =>
    have hy : y ∈ given 676 (fun i => !inV (.str (spare i)) (us.map V.str)) (fun i => V.str (spare i)) := by rw [eg]; exact List.mem_cons_self ..
    unfold given at hy
    obtain ⟨i1, h1, rfl⟩ := List.mem_map.mp hy
    have hi1 : i1 < 676 := List.mem_range.mp (List.mem_filter.mp h1).1
    rw [eg] at lc2
    refine s_ret (ev_opL1 lc2 (fun _ _ => ev_c) fun p2 H7 hp2 _ => rv_ixL (sq_of hp2) (atI_nat (j := 0) rfl)) fun H7 e7 => ?_
    have ni : spare i1 ∉ us := fun z => by
      have y := (List.mem_filter.mp h1).2
      rw [inV_mem.mpr z] at y
      cases y
    exact q _ H7 (spare_name i1 (by omega)) ni (dr.trans (Drew.of dr.pot ((e5.trans e6).trans e7)))
theorem ok_words1 {f : Addr} {fd : FuncData} {k : Nat} (F : Fun K "_law_words" "_law_words" sWords1 f fd) (B : Blt mg) (N : Has P w K mg base k "_law_word" ["_law_pot_here", "_law_used"] spWord) :
    FnG P w K mg base CX0 (k + 1) f fd ["_law_pot_here", "_law_number"] spWords := by
  obtain ⟨fN, fdN, GN, bN, kN, gN⟩ := N.ex
  refine okG F scWords1 (fun vs H Q E h => by obtain ⟨_, _, rfl, _⟩ := h; rfl) (fun cdv A outer s H vs Q E hq hr h => ?_)
  obtain ⟨p, n, rfl, pot, hn, q⟩ := h
  refine ⟨_, pss_cons (ps_set (i := 2) scWords1.nd rfl (.inl rfl) (pe_lst pa_nil))
    (pss_cons (ps_for PassesOwn.never rfl (pi_range1 (by rfl) B.range (pa_cons (pv 1) pa_nil)) (pg_name (i := 3) scWords1.nd rfl (.inl rfl))
      (pss_one (ps_expr (pe_bm PySem.F.plainAttrs_list PySem.F.slot_list_append PySem.F.type_list_append mt_append (pv 2) (pa_cons (callG GN hq hr (by rfl) gN kN bN .nil pass0 (pa_cons (pv 0) (pa_cons (pv 2) pa_nil))) pa_nil)))))
    (pss_one (ps_ret (pv 2)))), ?_⟩
  refine ⟨Nat.zero_le _, fun l hl => ?_⟩
  have d0 : Drew p H (upd H l (.lst [])) := Drew.of pot (Ex.new hl)
  have ln : l ≠ p := (Drew.refl pot).neq hl
  refine ⟨.int n, rfl, n, rfl, by omega, by omega, for_range (lo := 0) (n := (n : Int).toNat) (fun i σ H' => ∃ y3 xs, σ = [some (.ref p), some (.int n), some (.ref l), y3] ∧ H' l = some (.lst ((xs : List Str).map V.str)) ∧ xs.length = i ∧ xs.Nodup ∧ (∀ x ∈ xs, isNameS x = true) ∧ Drew p H H')
    ⟨none, [], rfl, upd_same, rfl, List.Pairwise.nil, by simp, d0⟩ (fun i σ H1 hi hP => ?_) (fun σ H1 hP => ?_)⟩
  · obtain ⟨y3, xs, rfl, h1, lx, nd, hx, dr⟩ := hP
    refine ⟨.ref l, rfl, .inl ⟨rfl, _, sq_of h1⟩, .ref p, rfl, .ref l, rfl, p, l, xs, rfl, dr.pot, ln, h1, by omega, fun x H2 nx fx dr2 => ?_⟩
    refine ⟨l, _, .str x, rfl, rfl, dr2.at ln h1, sz_lt (by rw [List.length_map]; omega), _, xs ++ [x], rfl, ?_, by simp [lx], List.nodup_append.mpr ⟨nd, List.pairwise_singleton _ _, fun a ha b hb e => fx (by rw [List.mem_singleton.mp hb] at e; exact e ▸ ha)⟩, ?_, (dr.trans dr2).mut hl ln⟩
    · rw [upd_same, List.map_append]; rfl
    · intro y hy
      rcases List.mem_append.mp hy with z | z
      · exact hx y z
      · rw [List.mem_singleton.mp z]; exact nx
  · obtain ⟨y3, xs, rfl, h1, lx, nd, hx, dr⟩ := hP
    exact ⟨.ref l, rfl, q l xs H1 hl h1 (by omega) nd hx dr⟩
end
end Cr
/-! _law_integer, as six laws draw it -/
namespace Cr
open PySem PySem.Spec PyProof.Rows L2 Evl
abbrev sInt1 : Stmt := topS 37
theorem scInt1 : FnScope ["_law_pot_here"] ["_law_pot_here"] (defScope sInt1) := ⟨rfl, rfl, rfl, by decide +kernel, rfl, by decide +kernel, by decide +kernel⟩
section
variable {P : Program} {w : World} {K : PySem.W.Frag} {mg : Str → Option Value} {base : Heap}
theorem ok_int1 {f : Addr} {fd : FuncData} {k : Nat} (F : Fun K "_law_integer" "_law_integer" sInt1 f fd) (B : Blt mg) (D : Has P w K mg base k "_law_draw" ["_law_pot_here", "_law_bound"] spDraw) : FnG P w K mg base CX0 (k + 1) f fd ["_law_pot_here"] spInteger := by
  obtain ⟨fD, fdD, GD, bD, kD, gD⟩ := D.ex
  refine okG F scInt1 (fun vs H Q E h => by obtain ⟨_, rfl, _⟩ := h; rfl) (fun cdv A outer s H vs Q E hq hr h => ?_)
  obtain ⟨p, rfl, pot, q⟩ := h
  refine ⟨_, pss_one (ps_ret (pe_ix ix_list (pe_lst (pa_cons (pe_op op_sub (callG GD hq hr (by rfl) gD kD bD .nil pass0 (pa_cons (pv 0) (pa_cons pe_int pa_nil))) pe_int)
      (pa_cons (pe_op op_add (pe_op op_sub (callG GD hq hr (by rfl) gD kD bD .nil pass0 (pa_cons (pv 0) (pa_cons (pe_op op_sub (pe_op op_mul pe_int (pe_op op_pow pe_int pe_int)) pe_int) pa_nil))) (pe_op op_pow pe_int pe_int)) pe_int) pa_nil)))
    (pe_callTy call_int1 (by rfl) B.int bInt (pa_cons (pe_cmpR op_eq (callG GD hq hr (by rfl) gD kD bD .nil pass0 (pa_cons (pv 0) (pa_cons pe_int pa_nil))) pe_int (nomark _)) pa_nil)) (fun _ _ => rfl))), ?_⟩
  have big : (10 : Int) ^ (30 : Int).toNat = 1000000000000000000000000000000 := by decide
  have b30 : (10 : Nat) ^ 30 = 1000000000000000000000000000000 := by decide
  refine ⟨.ref p, rfl, p, 5, rfl, by decide, by decide +kernel, pot, fun d1 H1 a1 b1 r1 => ⟨d1, 2, rfl, rfl, .ref p, rfl, 10, 30, rfl, rfl, ⟨by decide, by decide, by decide⟩, 2, _, rfl, rfl, ?_⟩⟩
  have e1 : ((2 : Int) * (10 : Int) ^ (30 : Int).toNat - 1) = 1999999999999999999999999999999 := by decide
  refine ⟨.inl ⟨by decide, by decide⟩, _, 1, rfl, rfl, p, _, rfl, by rw [e1]; decide, by rw [e1]; decide +kernel, r1.pot, fun d2 H2 a2 b2 r2 => ?_⟩
  rw [e1] at b2
  refine ⟨10, 30, rfl, rfl, ⟨by decide, by decide, by decide⟩, d2, _, rfl, rfl, _, 1, rfl, rfl, by show 2 ≤ sizeLine; decide, fun o ho => ?_⟩
  have r12 := r1.trans r2
  have r3 : Drew p H (upd H2 o (.lst [.int (d1 - 2), .int (d2 - (10 : Int) ^ (30 : Int).toNat + 1)])) := r12.new ho
  refine ⟨.ref p, rfl, p, 8, rfl, by decide, by decide +kernel, r3.pot, fun d3 H3 a3 b3 r4 => ⟨rfl, .inr ⟨_, rfl, ?_⟩⟩⟩
  have hl := r4.at (r12.neq ho) upd_same
  by_cases hc : V.int d3 = V.int 0
  · rw [decide_eq_true hc]
    refine ⟨o, _, 1, .int (d2 - (10 : Int) ^ (30 : Int).toNat + 1), rfl, rfl, sq_of hl, atI_nat (j := 1) rfl, q _ _ ?_ (r3.trans r4)⟩
    rw [big, b30]
    omega
  · rw [decide_eq_false hc]
    refine ⟨o, _, 0, .int (d1 - 2), rfl, rfl, sq_of hl, atI_nat (j := 0) rfl, q _ _ ?_ (r3.trans r4)⟩
    rw [b30]
    omega
end
end Cr
/-! _law_local_step, as six laws draw it -/
namespace Cr
open PySem PySem.Spec PyProof.Rows L2 Evl
def isSI : V → Bool
  | .str _ => true
  | .int _ => true
  | _ => false
theorem dV_SI : ∀ {us : List V}, us.all isSI = true → (us.map flD).map dV = us
  | [], _ => rfl
  | v :: r, h => by
    rw [List.all_cons, Bool.and_eq_true] at h
    rw [List.map_cons, List.map_cons, dV_SI h.2]
    cases v with
    | str x => rfl
    | int i => rfl
    | _ => exact nomatch h.1
theorem stepV_ok {us : List V} (h : StepOk us) (hk : us.all isSI = true) : StepV us ∧ intsIn us := by
  obtain ⟨vs, e, sv⟩ := step_bare h.step
  have e1 := PyData.tuple.inj e
  have hv : vs.all isSI = true := List.all_eq_true.mpr fun v hv => by
    have b := List.all_eq_true.mp sv.bare v hv
    cases v <;> first | rfl | exact nomatch b
  have eq : us = vs := by rw [← dV_SI hk, ← dV_SI hv, e1]
  refine ⟨eq ▸ sv, fun i hi => ?_⟩
  have z := List.all_eq_true.mp h.leaf _ hi
  exact of_decide_eq_true z
theorem before_ne {z : Str} {ds : List PyData} (a : Int) (h : isStep (.tuple (.str z :: ds)) = true) (hz : z ≠ "skip") : isBefore (.tuple (.str z :: ds)) a = true := by
  unfold isBefore skipOk
  rw [h, skipLen_ne hz]
  rfl
theorem name_strOk {x : Str} (h : isNameS x = true) : PyData.strOk x = true := by
  unfold isNameS at h
  simp only [Bool.and_eq_true, decide_eq_true_eq] at h
  unfold PyData.strOk
  rw [Array.all_eq_true_iff_forall_mem]
  intro c hc
  have y := List.all_eq_true.mp h.2 c (by simpa using hc)
  unfold isLow at y
  simp only [Bool.and_eq_true, decide_eq_true_eq] at y
  exact decide_eq_true (by omega)
theorem names_lay : ∀ ts : List Str, (∀ x ∈ ts, isNameS x = true) → PyData.canLay0 (.list (ts.map PyData.str)) = true := by
  intro ts hn
  rw [PyData.canLay0]
  induction ts with
  | nil => rfl
  | cons t r ih =>
    rw [List.map_cons, PyData.canLayAll0, ih fun x hx => hn x (List.mem_cons_of_mem _ hx), PyData.canLay0, name_strOk (hn t List.mem_cons_self)]
    rfl
theorem names_deep (ts : List Str) : PyData.depthAll (ts.map PyData.str) = 0 := by
  induction ts with
  | nil => rfl
  | cons t r ih => rw [List.map_cons, PyData.depthAll, ih]; rfl
theorem dp_names {K : PySem.W.Frag} {H : Hp} : ∀ ts : List Str, DpAll K H (ts.map V.str) (ts.map PyData.str)
  | [] => .nil
  | t :: r => .cons (.str t) (dp_names r)
abbrev sLoc : Stmt := topS 38
abbrev nLoc : List Str := ["_law_pot_here", "_law_room", "_law_labels", "_law_is_main", "_law_word_here", "_law_one", "_law_other"]
theorem scLoc : FnScope nLoc ["_law_pot_here", "_law_room", "_law_labels", "_law_is_main"] (defScope sLoc) := ⟨rfl, rfl, rfl, by decide +kernel, rfl, by decide +kernel, by decide +kernel⟩
/-- its module, if it has one, is among these -/
def ModIn (ts : List Str) (us : List V) : Prop := ∀ x, modO (.tuple (us.map flD)) = some x → x ∈ ts
theorem modIn_no {ts : List Str} {z : Str} {r : List V} (h : spotOf z = none) : ModIn ts (.str z :: r) := fun x hx => by
  have e : modO (.tuple (.str z :: r.map flD)) = some x := hx
  rw [modO_none h] at e
  cases e
theorem modIn_yes {ts : List Str} {z m : Str} {r : List V} {i : Nat} (hs : spotOf z = some i) (hm : (PyData.str z :: r.map flD)[i]? = some (.str m)) (h : m ∈ ts) : ModIn ts (.str z :: r) := fun x hx => by
  have e : modO (.tuple (.str z :: r.map flD)) = some x := hx
  rw [modO_some hs hm] at e
  cases e
  exact h
theorem ModIn.mono {ts ts' : List Str} {us : List V} (h : ModIn ts us) (s : ∀ x ∈ ts, x ∈ ts') : ModIn ts' us := fun x hx => s x (h x hx)
def StepTo (p : Addr) (H : Hp) (a : Nat) (ts : List Str) (Q : VK) : Prop := ∀ t us H', H t = none → H' t = some (.tup us) → StepV us → intsIn us → ModIn ts us → isBefore (.tuple (us.map flD)) (a : Int) = true → Drew p H H' → Q (.ref t) H'
def spLoc : Sp := fun vs H Q _ => ∃ (p lb : Addr) (ls : List Str) (a : Nat) (main : Bool), vs = [.ref p, .int (a : Int), .ref lb, .bl main] ∧ Pot H p ∧ lb ≠ p ∧ H lb = some (.lst (ls.map V.str)) ∧ 1 ≤ ls.length ∧ ls.length ≤ 100 ∧ (∀ x ∈ ls, isNameS x = true) ∧ a ≤ 100 ∧ StepTo p H a [] Q
theorem abcd_var : ∀ c ∈ ("abcd" : Str).cps.toList, isVar (.str ⟨#[c]⟩) = true := by decide +kernel
abbrev six : List Str := ["set", "set", "add", "skip", "export", "export"]
theorem six_get (j : Nat) (h : j < 6) : ∃ x, (six.map V.str)[j]? = some (.str x) ∧ (x = "set" ∨ x = "add" ∨ x = "skip" ∨ x = "export") := by
  have hl : j < six.length := h
  refine ⟨six[j], by rw [List.getElem?_map, List.getElem?_eq_getElem hl]; rfl, ?_⟩
  have z : ∀ x ∈ six, x = "set" ∨ x = "add" ∨ x = "skip" ∨ x = "export" := by decide +kernel
  exact z _ (List.getElem_mem hl)
section
variable {P : Program} {w : World} {K : PySem.W.Frag} {mg : Str → Option Value} {base : Heap}
theorem ok_loc {f : Addr} {fd : FuncData} {k : Nat} (F : Fun K "_law_local_step" "_law_local_step" sLoc f fd) (B : Blt mg) (D : Has P w K mg base k "_law_draw" ["_law_pot_here", "_law_bound"] spDraw) (C : Has P w K mg base k "_law_choice" ["_law_pot_here", "_law_options"] spChoice) (I : Has P w K mg base k "_law_integer" ["_law_pot_here"] spInteger) :
    FnG P w K mg base CX0 (k + 1) f fd ["_law_pot_here", "_law_room", "_law_labels", "_law_is_main"] spLoc := by
  obtain ⟨fD, fdD, GD, bD, kD, gD⟩ := D.ex
  obtain ⟨fC, fdC, GC, bC, kC, gC⟩ := C.ex
  obtain ⟨fI, fdI, GI, bI, kI, gI⟩ := I.ex
  refine okG F scLoc (fun vs H Q E h => by obtain ⟨_, _, _, _, _, rfl, _⟩ := h; rfl) (fun cdv A outer s H vs Q E hq hr h => ?_)
  obtain ⟨p, lb, ls, a, main, rfl, pot, ln, hlb, l1, l100, hls, ha, q⟩ := h
  refine ⟨_, pss_cons (ps_set (i := 4) scLoc.nd rfl (.inl rfl) (pe_ix ix_list (pe_lst (pa_cons pe_str (pa_cons pe_str (pa_cons pe_str (pa_cons pe_str (pa_cons pe_str (pa_cons pe_str pa_nil))))))) (callG GD hq hr (by rfl) gD kD bD .nil pass0 (pa_cons (pv 0) (pa_cons (pe_ifExp (pt_val (pv 3)) pe_int pe_int) pa_nil))) (fun _ _ => rfl)))
    (pss_cons (ps_par (i := 5) (j := 6) (by rfl) scLoc.nd rfl rfl (by decide) rfl rfl (pa_cons (callG GC hq hr (by rfl) gC kC bC .nil pass0 (pa_cons (pv 0) (pa_cons pe_str pa_nil))) (pa_cons (callG GC hq hr (by rfl) gC kC bC .nil pass0 (pa_cons (pv 0) (pa_cons pe_str pa_nil))) pa_nil)) (by rfl))
    (pss_cons (ps_if (PW.pt (pw_or (pt_cmpR op_eq (pv 4) pe_str (nomark _)) (pw_or1 (PW.pt (pw_and (pt_cmpR op_eq (pv 4) pe_str (nomark _)) (pw_and1 (pt_cmpR op_lt (pv 1) pe_int (nomark _)))))))) (pss_one (ps_ret (pe_tup (pa_cons pe_str (pa_cons (pv 5) (pa_cons (callG GI hq hr (by rfl) gI kI bI .nil pass0 (pa_cons (pv 0) pa_nil)) pa_nil)))))) pss_nil)
    (pss_cons (ps_if (pt_cmpR op_eq (pv 4) pe_str (nomark _)) (pss_one (ps_ret (pe_tup (pa_cons pe_str (pa_cons (pv 5) (pa_cons (pv 6) pa_nil)))))) pss_nil)
    (pss_one (ps_ret (pe_ifExp (pt_cmpR op_eq (pv 4) pe_str (nomark _)) (pe_tup (pa_cons pe_str (pa_cons (pv 5) (pa_cons (pe_op op_add pe_int (callG GD hq hr (by rfl) gD kD bD .nil pass0 (pa_cons (pv 0) (pa_cons (pv 1) pa_nil)))) pa_nil))))
      (pe_tup (pa_cons pe_str (pa_cons (callG GC hq hr (by rfl) gC kC bC .nil pass0 (pa_cons (pv 0) (pa_cons (pv 2) pa_nil))) (pa_cons (pv 5) pa_nil))))))))))  , ?_⟩
  have out : ∀ {us : List V} {H' : Hp} {t : Addr}, StepOk us → us.all isSI = true → ModIn [] us → isBefore (.tuple (us.map flD)) (a : Int) = true → Drew p H H' → H' t = none → Q (.ref t) (upd H' t (.tup us)) := fun {us H' t} so si mi bf r zt =>
    q t us _ (fresh_drew r pot zt) upd_same (stepV_ok so si).1 (stepV_ok so si).2 mi bf (r.new zt)
  refine q_asgAny ⟨by show 6 ≤ sizeLine; decide, fun o ho => ?_⟩
  have r1 : Drew p H (upd H o (.lst (six.map V.str))) := (Drew.refl pot).new ho
  have on : o ≠ p := (Drew.refl pot).neq ho
  have e30 : (10 : Nat) ^ 30 = 1000000000000000000000000000000 := by decide
  obtain ⟨b, hb, hev⟩ : ∃ b : Int, (b = 4 ∨ b = 6) ∧ Ev (tIf (tB (tVar 3)) (tC (.int 4)) (tC (.int 6))) (L2.start nLoc [.ref p, .int (a : Int), .ref lb, .bl main]) (upd H o (.lst (six.map V.str))) (.int b) := by
    cases main
    · exact ⟨6, .inr rfl, ev_if (b := false) (et_B (ev_var rfl)) (fun z => nomatch z) fun _ => ev_c⟩
    · exact ⟨4, .inl rfl, ev_if (b := true) (et_B (ev_var rfl)) (fun _ => ev_c) fun z => nomatch z⟩
  refine ⟨.ref p, rfl, hev _ (Ex.refl _) _ fun H2 e2 => ⟨p, b, rfl, by omega, by rcases hb with rfl | rfl <;> decide +kernel, r1.pot.ex e2, fun d H3 d0 db r3 => ?_⟩⟩
  have r13 := (r1.trans (Drew.of r1.pot e2)).trans r3
  obtain ⟨j, rfl⟩ := Int.eq_ofNat_of_zero_le d0
  obtain ⟨x, hx, hx4⟩ := six_get j (by omega)
  refine ⟨o, _, (j : Int), .str x, rfl, rfl, sq_of (r3.at on (e2 _ _ upd_same)), atI_nat hx, ?_⟩
  refine ⟨.ref p, rfl, p, r13.pot, .inr ⟨"abcd", rfl, by decide +kernel, by decide +kernel, fun c H4 hc r4 => ?_⟩⟩
  have r14 := r13.trans r4
  refine ⟨.ref p, rfl, p, r14.pot, .inr ⟨"abcd", rfl, by decide +kernel, by decide +kernel, fun c2 H5 hc2 r5 => ⟨.str ⟨#[c]⟩, .str ⟨#[c2]⟩, rfl, ?_⟩⟩⟩
  have r15 := r14.trans r5
  have v1 := abcd_var c hc
  have v2 := abcd_var c2 hc2
  generalize (⟨#[c]⟩ : Str) = y1 at v1
  generalize (⟨#[c2]⟩ : Str) = y2 at v2
  refine q_when (b := decide (V.str x = V.str "set") || (decide (V.str x = V.str "skip") && decide ((a : Int) < 1))) (et_or (et_test (ev_op (ev_var rfl) ev_c (rv_eq rfl))) fun _ => et_and (et_test (ev_op (ev_var rfl) ev_c (rv_eq rfl))) fun _ => et_test (ev_op (ev_var rfl) ev_c rv_I0)) (fun hb1 H6 e6 => ?_) (fun hb1 H6 e6 => ?_)
  · have r16 := r15.trans (Drew.of r15.pot e6)
    refine ⟨.str y1, rfl, .ref p, rfl, p, rfl, r16.pot, fun i H7 hi r7 => ⟨by show 3 ≤ sizeLine; decide, fun t zt => ?_⟩⟩
    have so := st_set v1 hi
    exact out so rfl (modIn_no (by decide +kernel)) (before_ne _ so.step (by decide +kernel)) (r16.trans r7) zt
  have r16 := r15.trans (Drew.of r15.pot e6)
  rw [Bool.or_eq_false_iff] at hb1
  have ns : x ≠ "set" := fun e => by rw [e, decide_eq_true rfl] at hb1; exact absurd hb1.1 (by decide)
  refine q_when (et_test (ev_op (ev_var rfl) ev_c (rv_eq rfl))) (fun hb2 H7 e7 => ?_) (fun hb2 H7 e7 => ?_)
  · have r17 := r16.trans (Drew.of r16.pot e7)
    have so := st_add v1 v2
    exact ⟨.str y1, rfl, .str y2, rfl, by show 3 ≤ sizeLine; decide, fun t zt => out so rfl (modIn_no (by decide +kernel)) (before_ne _ so.step (by decide +kernel)) r17 zt⟩
  have r17 := r16.trans (Drew.of r16.pot e7)
  have na : x ≠ "add" := fun e => by rw [e, decide_eq_true rfl] at hb2; exact absurd hb2 (by decide)
  refine ev_op (ev_var rfl) ev_c (rv_eq rfl) H7 (Ex.refl H7) _ fun H8 e8 => ⟨_, rfl, ?_⟩
  have r18 := r17.trans (Drew.of r17.pot e8)
  by_cases hk : V.str x = V.str "skip"
  · rw [decide_eq_true hk]
    have apos : 1 ≤ (a : Int) := by
      have z := hb1.2
      rw [decide_eq_true hk, Bool.true_and] at z
      have := of_decide_eq_false z
      omega
    have la : ((a : Nat) : Int).natAbs.log2 < 9000 := by
      rw [Int.natAbs_natCast]
      exact Nat.lt_of_le_of_lt (Nat.log2_le_self a) (by omega)
    refine ⟨.str y1, rfl, .ref p, rfl, .int (a : Int), rfl, p, (a : Int), rfl, by omega, la, r18.pot, fun kk H9 k0 k1 r9 => ⟨1, kk, rfl, rfl, by show 3 ≤ sizeLine; decide, fun t zt => ?_⟩⟩
    have so : StepOk [.str "skip", .str y1, .int (1 + kk)] := st_skip v1 (by omega) (by rw [e30]; omega)
    refine out so rfl (modIn_no (by decide +kernel)) ?_ (r18.trans r9) zt
    unfold isBefore
    rw [so.step, Bool.true_and]
    show decide (1 + kk ≤ (a : Int)) = true
    exact decide_eq_true (by omega)
  · rw [decide_eq_false hk]
    have hlb8 := r18.at ln hlb
    refine ⟨.ref p, rfl, .ref lb, rfl, p, r18.pot, .inl ⟨lb, _, rfl, ln, hlb8, by rw [List.length_map]; omega, by rw [List.length_map]; omega, fun v H9 hv r9 => ?_⟩⟩
    obtain ⟨nm, hnm, rfl⟩ := List.mem_map.mp hv
    have so := st_export (hls nm hnm) v1
    exact ⟨.str y1, rfl, by show 3 ≤ sizeLine; decide, fun t zt => out so rfl (modIn_no (by decide +kernel)) (before_ne _ so.step (by decide +kernel)) (r18.trans r9) zt⟩
end
end Cr
/-! a, *b = a list -/
/-! get of a written dict with a default; texts' methods as expressions -/
/-! a text times a number -/
/-! general: texts of plain signs, parts of lists and texts, walks -/
namespace Cr
open PySem PySem.Spec PyProof.Rows L2 Evl
/-- a text of plain signs -/
def okT (x : Str) : Prop := ∀ c ∈ x.cps.toList, c < 128
theorem okT_sok {x : Str} (h : okT x) : PyData.strOk x = true := by
  unfold PyData.strOk
  rw [Array.all_eq_true_iff_forall_mem]
  intro c hc
  have := h c (by simpa using hc)
  exact decide_eq_true (by omega)
theorem given_flt {α : Type} (l : List α) (d : α) (f : α → Bool) (v : α → V) : given l.length (fun i => f (l.getD i d)) (fun i => v (l.getD i d)) = (l.filter f).map v := by
  have e : (List.range l.length).map (fun i => l.getD i d) = l := by
    refine List.ext_getElem? fun i => ?_
    rw [List.getElem?_map]
    by_cases hi : i < l.length
    · rw [List.getElem?_range hi, List.getElem?_eq_getElem hi]
      show some (l.getD i d) = _
      rw [List.getD_eq_getElem?_getD, List.getElem?_eq_getElem hi]
      rfl
    · rw [List.getElem?_eq_none (by rw [List.length_range]; omega), List.getElem?_eq_none (by omega)]
      rfl
  have z : (((List.range l.length).map fun i => l.getD i d).filter f).map v = (l.filter f).map v := by rw [e]
  rw [List.filter_map, List.map_map] at z
  exact z
theorem app_toL (a b : Str) : (a ++ b).cps.toList = a.cps.toList ++ b.cps.toList := by
  show (a.cps ++ b.cps).toList = _
  exact Array.toList_append
theorem okT_app {a b : Str} (ha : okT a) (hb : okT b) : okT (a ++ b) := fun c hc => by
  rw [app_toL] at hc
  rcases List.mem_append.mp hc with h | h
  · exact ha c h
  · exact hb c h
theorem cutV_to {xs : List V} (k : Nat) : cutV xs none (some (k : Int)) = xs.take k := by
  unfold cutV
  rw [HT.sIx_none, HT.sIx_nat, List.drop_zero, Nat.sub_zero]
  by_cases h : k ≤ xs.length
  · rw [Nat.min_eq_left h]
  · rw [Nat.min_eq_right (by omega), List.take_of_length_le (Nat.le_refl _), List.take_of_length_le (by omega)]
section
variable {K : PySem.W.Frag} {tl ti tj : TE} {ta : TA} {σ : L2.St} {H : Hp} {a : Addr} {xs ys : List V} {k : Nat} {x : Str} {v : V}
theorem el_cutTo (hl : Ev tl σ H (.ref a)) (ha : H a = some (.lst xs)) (hi : Ev ti σ H (.int (k : Int))) : EvL (tSl (rSlL K) tl tNoPart (tPart ti)) σ H (xs.take k) := fun H1 e1 Q q =>
  hl H1 e1 _ fun H2 e2 => hi H2 (e1.trans e2) _ fun H3 e3 => ⟨(k : Int), rfl, a, xs, rfl, sq_of (((e1.trans e2).trans e3) _ _ ha), fun p hp => by
    rw [cutV_to]
    exact q p _ (fresh_back (e2.trans e3) hp) ((e2.trans e3).trans (Ex.new hp)) upd_same⟩
end
/-- a list of texts walked, each for a value -/
theorem el_strsW {K : PySem.W.Frag} {wl te : TE} {σ : L2.St} {H : Hp} {j : Nat} {ws : List Str} (hl : ∀ H1, Ex H H1 → ∀ Q : VK, (∀ l H2, Ex H1 H2 → H2 l = some (.lst (ws.map V.str)) → Q (.ref l) H2) → wl σ H1 Q) (hz : ws.length ≤ 1000) (hw : ∀ v, wipe ((wipe σ [j]).set j (some v)) [j] = wipe σ [j])
    (v : Str → V) (ht : ∀ y ∈ ws, ∀ H1, Ex H H1 → Ev te ((wipe σ [j]).set j (some (.str y))) H1 (v y)) : EvL (tLc (iList K wl) (gName j) tYes te [j]) σ H (ws.map v) := by
  have lc := el_lcW (wi := iList K wl) (g := gName j) (tt := tYes) (te := te) (vs := [j]) (σ := σ) (H := H) (n := ws.length) (Y := YAt (ws.map V.str)) (fun _ => true) (fun i => v (ws.getD i "")) (by omega)
    (fun H1 e1 R r => hl H1 e1 _ fun l H2 e2 h2 => ⟨l, rfl, ⟨_, sq_of h2⟩, r H2 _ _ (by have := walk_list (K := K) (a := l) (xs := ws.map V.str); rw [List.length_map] at this; exact this) (fun _ _ e z => ex_l e z) e2 (sq_of h2)⟩)
    (fun i y H2 H3 e2 hi hy => by
      obtain ⟨rfl, hy⟩ := hy
      have hy2 : (ws.map V.str)[i]? = some y := hy
      rw [List.getElem?_map, List.getElem?_eq_getElem hi] at hy2
      have ey : y = .str (ws[i]) := (Option.some.inj hy2).symm
      have ed : ws.getD i "" = ws[i] := by rw [List.getD_eq_getElem?_getD, List.getElem?_eq_getElem hi]; rfl
      subst ey
      refine ⟨Ex.refl _, (wipe σ [j]).set j (some (.str ws[i])), hw _, fun R r => r, fun H4 _ Q q => q H4 (Ex.refl H4), fun _ => ?_⟩
      rw [ed]
      exact ht _ (List.getElem_mem hi) _ e2)
  have e : given ws.length (fun _ => true) (fun i => v (ws.getD i "")) = ws.map v := by
    rw [given_flt ws "" (fun _ => true) v, List.filter_eq_self.mpr (fun _ _ => rfl)]
  rw [e] at lc
  exact lc
theorem putK_new {kvs : List (Key × V)} {k : Key} {v : V} (h : k ∉ kvs.map (·.1)) : putK kvs k v = kvs ++ [(k, v)] := by
  unfold putK
  rw [if_neg]
  intro z
  obtain ⟨kv, h1, h2⟩ := List.any_eq_true.mp z
  exact h (List.mem_map.mpr ⟨kv, h1, of_decide_eq_true h2⟩)
theorem mergeK_new : ∀ {more kvs : List (Key × V)}, (more.map (·.1)).Nodup → (∀ k ∈ more.map (·.1), k ∉ kvs.map (·.1)) → mergeK kvs more = kvs ++ more
  | [], kvs, _, _ => (List.append_nil _).symm
  | p :: r, kvs, nd, h => by
    rw [List.map_cons, List.nodup_cons] at nd
    show mergeK (putK kvs p.1 p.2) r = _
    rw [putK_new (h p.1 (by rw [List.map_cons]; exact List.mem_cons_self)), mergeK_new nd.2, List.append_assoc]
    · rfl
    · intro k hk hm
      rw [List.map_append, List.mem_append] at hm
      rcases hm with hm | hm
      · exact h k (by rw [List.map_cons]; exact List.mem_cons_of_mem _ hk) hm
      · have e : k = p.1 := by simpa using hm
        exact nd.1 (e ▸ hk)
theorem name_okT {x : Str} (h : isNameS x = true) : okT x ∧ x.length ≤ 32 := by
  unfold isNameS at h
  simp only [Bool.and_eq_true, decide_eq_true_eq] at h
  refine ⟨fun c hc => ?_, by omega⟩
  have y := List.all_eq_true.mp h.2 c hc
  unfold isLow at y
  simp only [Bool.and_eq_true, decide_eq_true_eq] at y
  omega
theorem step_sz {ds : List PyData} (h : isStep (.tuple ds) = true) (hi : ∀ i, PyData.int i ∈ ds → i.natAbs ≤ 10 ^ 30) : ds.length ≤ 4 ∧ (∀ d ∈ ds, Sz 32 0 d) ∧ sm (.tuple ds) = true := by
  obtain ⟨l4, wy⟩ := step_wordy h
  refine ⟨l4, fun d hd => ?_, ?_⟩
  · have w := wy d hd
    cases d with
    | int i => exact sz_int (Nat.le_trans (hi i hd) (Nat.pow_le_pow_right (by decide) (by decide)))
    | str x =>
      obtain ⟨a, b⟩ := name_okT (step_str h hd)
      exact sz_str b fun c hc => by have := a c hc; omega
    | _ => exact nomatch w
  · rw [sm, Bool.and_eq_true]
    refine ⟨decide_eq_true (by omega), smAll_of fun d hd => ?_⟩
    have w := wy d hd
    cases d with
    | int i => rfl
    | str x => exact decide_eq_true (by have := (name_okT (step_str h hd)).2; omega)
    | _ => exact nomatch w
end Cr
/-! a library's making -/
namespace Cr
open PySem PySem.Spec PyProof.Rows L2 Evl
theorem bSrt : bootBuiltins "sorted" = some (.builtin "sorted") := by decide +kernel
theorem ndt_wordy : ∀ {ds : List PyData}, (∀ d ∈ ds, wordy d = true) → ndtAll ds = true
  | [], _ => rfl
  | d :: ds, h => by
    have w := h d List.mem_cons_self
    rw [ndtAll, ndt_wordy fun e he => h e (List.mem_cons_of_mem _ he)]
    cases d with
    | str x => rfl
    | int i => rfl
    | _ => exact nomatch w
theorem ndt_prog {p : Prog} (h : ∀ ds ∈ p, isStep (.tuple ds) = true) : ndt (progD p) = true := by
  unfold progD
  rw [ndt]
  have go : ∀ p : Prog, (∀ ds ∈ p, isStep (.tuple ds) = true) → ndtAll (p.map PyData.tuple) = true := by
    intro p
    induction p with
    | nil => intro _; rfl
    | cons ds p ih =>
      intro h
      rw [List.map_cons, ndtAll, ih fun d hd => h d (List.mem_cons_of_mem _ hd), ndt, ndt_wordy (step_wordy (h ds List.mem_cons_self)).2]
      rfl
  exact go p h
theorem lkv_keep {H H' : Hp} (e : KeepLT H H') : ∀ {L : Lib} {kvs : List (Key × V)}, (∀ r ∈ L, ∀ ds ∈ r.2, isStep (.tuple ds) = true) → LKv H kvs L → LKv H' kvs L
  | [], kvs, _, h => by rw [lkv_nil h]; exact .nil
  | r :: L, kvs, w, h => by
    obtain ⟨v, kvs', rfl, hv, h⟩ := lkv_inv h
    exact .cons (k := Sum.inr r.1) (Dt.keepLT e (ndt_prog (w r List.mem_cons_self)) hv) (lkv_keep e (fun y hy => w y (List.mem_cons_of_mem _ hy)) h)
theorem keepLT_upd {H : Hp} {p : Addr} {o : HO} (h1 : ∀ xs, H p ≠ some (.lst xs)) (h2 : ∀ xs, H p ≠ some (.tup xs)) : KeepLT H (upd H p o) :=
  ⟨fun b xs h => by rw [upd_ne (fun e : b = p => h1 xs (by rw [← e]; exact h))]; exact h, fun b xs h => by rw [upd_ne (fun e : b = p => h2 xs (by rw [← e]; exact h))]; exact h⟩
theorem KeepLT.trans {H H1 H2 : Hp} (a : KeepLT H H1) (b : KeepLT H1 H2) : KeepLT H H2 := ⟨fun c xs h => b.1 c xs (a.1 c xs h), fun c xs h => b.2 c xs (a.2 c xs h)⟩
theorem Ex.keepLT {H H' : Hp} (e : Ex H H') : KeepLT H H' := ⟨fun c xs h => e c _ h, fun c xs h => e c _ h⟩
theorem srt_at {L : Lib} (hk : (L.map (·.1)).Nodup) {i : Nat} (hi : i < (srtS (L.map (·.1))).length) : ∃ p, (srtL L)[i]? = some ((srtS (L.map (·.1)))[i], p) ∧ rowL L ((srtS (L.map (·.1)))[i]) = some ((srtS (L.map (·.1)))[i], p) := by
  have hm : (srtS (L.map (·.1)))[i] ∈ L.map (·.1) := (srtS_perm _).mem_iff.mp (List.getElem_mem hi)
  obtain ⟨r, hr, e⟩ := List.mem_map.mp hm
  refine ⟨r.2, ?_, ?_⟩
  · unfold srtL
    rw [List.getElem?_map, List.getElem?_eq_getElem hi]
    show some (_, progL L _) = _
    rw [← e, progL_in hk hr]
  · rw [← e]
    exact rowL_in hk hr
section
variable {P : Program} {w : World} {K : PySem.W.Frag} {mg : Str → Option Value} {base : Heap}
theorem ok_linit {f C : Addr} {fd : FuncData} {k : Nat} (F : Fun K "__init__" "Library.__init__" sLInit f fd) (B : Blt mg) (T : LbC K mg C) (h1 : HasO P w K mg base k "check_pairs" ["pairs"] spLPairs) (h2 : HasO P w K mg base k "bare_word" ["word"] spBareW) (h3 : HasO P w K mg base k "bare_program" ["program"] spBareP) : FnOk P w K mg base CX0 (k + 1) f fd ["self", "modules"] (spLInit C) := by
  obtain ⟨f1, d1, G1, b1, k1, g1⟩ := h1.ex
  obtain ⟨f2, d2, G2, b2, k2, g2⟩ := h2.ex
  obtain ⟨f3, d3, G3, b3, k3, g3⟩ := h3.ex
  refine F.ok scLInit (fun vs H Q E h => by obtain ⟨_, _, _, _, _, _, rfl, _⟩ := h; rfl) (fun cdv A outer s H vs Q E hr h => ?_)
  obtain ⟨x, dx, m, dm, kvs, L, rfl, hx, rfl, hd, hL, ok, q⟩ := h
  have hu := hu_of hr
  refine ⟨_, pss_cons (ps_if (pt_not (pt_val (pe_callB call_isi (by rfl) B.isi bIsi (pa_cons (pv 1) (pa_cons (pe_bltn (v := .ty "dict") (by rfl) B.dict bDict rfl) pa_nil))))) pss_dead' pss_nil)
    (pss_cons (ps_expr (pe_call (E := E0) G1 hr (by rfl) g1 k1 b1 .nil pass0 (pa_cons (LiI.pe_listItems rfl (pv 1) (by rfl) B.list bList) pa_nil)))
    (pss_one (ps_fld (pv 0) (pe_dc (own := [("name", 2)]) (g := gName 2) (tt := tYes) (tk := tCall spBareW [] E0 (tCons (tVar 2) tNil)) (tv := tCall spBareP [] E0 (tCons (tDGet (tVar 1) (tVar 2)) tNil)) rfl scLInit.nd (pi_list (pe_callB (call_sortedD rfl) (by rfl) B.sorted bSrt (pa_cons (pv 1) pa_nil))) (blkOk_by (own := [("name", 2)]) (N := nLInit) (sc := defScope sLInit) (by decide +kernel))
      (fun _ _ _ _ _ => pg_name (i := 2) scLInit.nd rfl (Or.inl rfl)) (fun _ _ _ _ _ => pts_nil) (fun _ _ _ _ _ => by exact pe_call (E := E0) G2 hr (by rfl) g2 k2 b2 .nil pass0 (pa_cons (pv 2) pa_nil)) (fun _ _ _ _ _ => by exact pe_call (E := E0) G3 hr (by rfl) g3 k3 b3 .nil pass0 (pa_cons (pe_dget hu (pv 1) (pv 2) (fun _ _ => rfl)) pa_nil))) rfl))), ?_⟩
  have dL : Dt H (.ref dm) (libD L) := .dct hd hL
  refine q_when (b := false) (et_is (et_not (et_B (ev_cb (ea_cons (ev_var rfl) (ea_cons ev_c ea_nil)) (rc_isi dL (by decide))))) rfl) (fun z => nomatch z) (fun _ H1 e1 => ?_)
  refine ⟨.ref dm, rfl, dm, kvs, rfl, e1 _ _ hd, fun H2 p ts e2 zp zts npts hp hts => ?_⟩
  have e12 : Ex H H2 := e1.trans e2
  refine ⟨p, ts, kvs, L, rfl, hp, hts, DtKv.ex e12 hL, ok, fun H3 e3 => ?_⟩
  have e13 := e12.trans e3
  have lk := lkv_len hL
  have l40 := ok.v.l40
  refine ⟨.ref dm, rfl, dm, kvs, L.map (·.1), rfl, .inl (e13 _ _ hd), by rw [lkv_keys hL, List.map_map]; rfl, by rw [List.length_map]; omega, fun ys S hp2 hs2 zS => ?_⟩
  have eys := sorted_is hp2 hs2
  subst eys
  have e4 : Ex H3 (upd H3 S (.lst ((srtS (L.map (·.1))).map V.str))) := Ex.new zS
  have hS : (upd H3 S (.lst ((srtS (L.map (·.1))).map V.str))) S = some (.lst ((srtS (L.map (·.1))).map V.str)) := upd_same
  generalize upd H3 S (.lst ((srtS (L.map (·.1))).map V.str)) = H4 at e4 hS ⊢
  have e14 := e13.trans e4
  refine ⟨S, rfl, ⟨_, sq_of hS⟩, fun D zD => ?_⟩
  have ls : (srtS (L.map (·.1))).length = L.length := by rw [(srtS_perm _).length_eq, List.length_map]
  have SD : S ≠ D := ne_of_none hS zD
  have zD0 : H D = none := fresh_back e14 zD
  have xD : x ≠ D := ne_of_none hx zD0
  have dD : dm ≠ D := ne_of_none hd zD0
  have st : ∀ r ∈ srtL L, ∀ ds ∈ r.2, isStep (.tuple ds) = true := fun r hr => ((srt_v ok.v).ok r hr).st
  refine dc_it (walk_list (K := K) (a := S) (xs := (srtS (L.map (·.1))).map V.str)) (fun i H' => Ex H4 H' ∧ ∃ kv, H' D = some (.dK kv) ∧ LKv H' kv ((srtL L).take i) ∧ ∀ e ∈ kv, ∃ al, e.2 = .ref al ∧ H al = none) ⟨Ex.new zD, [], upd_same, by rw [List.take_zero]; exact .nil, fun e h => nomatch h⟩ (fun i H' _ h => sq_of (h.1 _ _ hS)) ?_ ?_
  · rintro i v H5 H5' hi ⟨e5, kv, hD, hkv, hfr⟩ ⟨rfl, hy⟩
    rw [List.length_map] at hi
    rw [List.getElem?_map, List.getElem?_eq_getElem hi] at hy
    cases hy
    obtain ⟨pr, hat, hrow⟩ := srt_at ok.v.nd hi
    have hn := (srt_names L)
    generalize hnm : (srtS (L.map (·.1)))[i] = nm at hat hrow
    obtain ⟨mr, _⟩ := rowL_mem hrow
    have vn := ok.v.nm _ mr
    have vp : ProgV pr := ok.v.ok _ mr
    refine ⟨rfl, ?_⟩
    unfold tYes
    dsimp only
    rw [if_pos rfl]
    have ln := (low_free vn).1
    refine ⟨.str nm, rfl, nm, rfl, by show nm.length ≤ 1000; exact Nat.le_trans ln (by decide), fun H6 e6 => ?_⟩
    have e16 := (e14.trans e5).trans e6
    rcases lkv_val nm (DtKv.ex e16 hL) with ⟨z, _⟩ | ⟨r', v', hr', hv', dv'⟩
    · rw [hrow] at z; cases z
    rw [hrow] at hr'
    cases hr'
    obtain ⟨al, xs, rfl, hal, hxs⟩ := dt_lst dv'
    obtain ⟨vss, evs, hst, hsv⟩ := steps_of hxs (fun d hd => by obtain ⟨ds, hds, rfl⟩ := List.mem_map.mp hd; exact vp.st ds hds)
    have lv : vss.length = pr.length := by
      have := congrArg List.length evs
      unfold stepsD at this
      rw [List.length_map, List.length_map] at this
      exact this.symm
    refine ⟨.ref dm, rfl, .str nm, rfl, dm, .ref al, rfl, ?_, al, xs, vss, rfl, hal, hst, by rw [lv]; have := vp.len; omega, fun us hus => stepV_bare (hsv us hus), fun l ys H7 zl e7 hl hys => ?_⟩
    · rw [← hv']
      exact DGet.k (k := Sum.inr nm) (e16 _ _ hd)
    have hD7 := e7 _ _ (e6 _ _ hD)
    have hkv7 := DtKv.ex (e6.trans e7) hkv
    have nin : (Sum.inr nm : Key) ∉ kv.map (·.1) := by
      rw [lkv_keys hkv]
      intro hm
      obtain ⟨r, hr, er⟩ := List.mem_map.mp hm
      have er := Sum.inr.inj er
      have nd := (srt_v ok.v).nd
      rw [← List.take_append_drop i (srtL L), List.map_append, List.nodup_append] at nd
      refine nd.2.2 r.1 (List.mem_map_of_mem hr) nm ?_ er
      refine List.mem_map.mpr ⟨(nm, pr), ?_, rfl⟩
      rw [List.mem_iff_getElem?]
      exact ⟨0, by rw [List.getElem?_drop, Nat.add_zero, hat]⟩
    have dl : Dt H7 (.ref l) (progD pr) := by
      refine .lst hl ?_
      rw [evs]
      exact Steps.dt hys fun us hus => stepV_flat (hsv us hus)
    refine ⟨kv, Sum.inr nm, rfl, hD7, by rw [lkv_len hkv, List.length_take, sizeLine_eq]; have := srt_len L; omega, Ex.mut (e5.trans (e6.trans e7)) zD, _, upd_same, ?_⟩
    rw [putK_new nin, List.take_add_one, hat, Option.toList_some]
    have kp : KeepLT H7 (upd H7 D (.dK (kv ++ [(Sum.inr nm, .ref l)]))) := keepLT_upd (fun xs h => by rw [hD7] at h; cases h) (fun xs h => by rw [hD7] at h; cases h)
    refine ⟨lkv_snoc (Dt.keepLT kp (ndt_prog vp.st) dl) (lkv_keep kp (fun r hr => st r (List.mem_of_mem_take hr)) hkv7), fun e he => ?_⟩
    rcases List.mem_append.mp he with h | h
    · exact hfr e h
    · rw [List.mem_singleton.mp h]
      exact ⟨l, rfl, fresh_back e16 zl⟩
  · rintro H5 ⟨e5, kv, hD, hkv, hfr⟩
    rw [List.length_map, ls, ← srt_len L, List.take_length] at hkv
    have hx5 := e5 _ _ (e14 _ _ hx)
    refine ⟨.ref x, rfl, x, C, dx, [], rfl, hx5, T.cl, T.nI, by show 0 < 1000; decide, ?_⟩
    have kp : KeepLT H5 (upd H5 x (.ins C dx [("initializers", .ref D)])) := keepLT_upd (fun xs h => by rw [hx5] at h; cases h) (fun xs h => by rw [hx5] at h; cases h)
    exact q _ ⟨⟨dx, D, kv, upd_same, by rw [upd_ne xD.symm]; exact hD, lkv_keep kp st hkv, zD0, hfr⟩⟩ fun b o nb hb => by rw [upd_ne nb]; exact e5 _ _ (e14 _ _ hb)
end
theorem prog_fits {p : Prog} (v : ProgV p) : Fits (progD p) := by
  refine (sz_list (sza_all (b := 132) (m := 1) fun d hd => ?_)).fits ?_ (by decide)
  · obtain ⟨ds, hds, rfl⟩ := List.mem_map.mp hd
    obtain ⟨l4, sz, _⟩ := step_sz (v.st ds hds) (v.it ds hds)
    exact (sz_tuple (sza_all sz)).mono (by omega) (Nat.le_refl _)
  · rw [List.length_map]
    have := v.len
    omega
end Cr
/-! libraries: their modules, programs, equal or not -/
namespace Cr
open PySem PySem.Spec PyProof.Rows L2 Evl
abbrev sLMods : Stmt := inClass (topS 29) 5
abbrev sLHas : Stmt := inClass (topS 29) 6
abbrev sLIni : Stmt := inClass (topS 29) 7
abbrev sLEq : Stmt := inClass (topS 29) 2
theorem scLMods : FnScope ["self"] ["self"] (defScope sLMods) := ⟨rfl, rfl, rfl, by decide +kernel, rfl, by decide +kernel, by decide +kernel⟩
theorem scLHas : FnScope ["self", "value"] ["self", "value"] (defScope sLHas) := ⟨rfl, rfl, rfl, by decide +kernel, rfl, by decide +kernel, by decide +kernel⟩
theorem scLIni : FnScope ["self", "module"] ["self", "module"] (defScope sLIni) := ⟨rfl, rfl, rfl, by decide +kernel, rfl, by decide +kernel, by decide +kernel⟩
theorem scLEq : FnScope ["self", "other"] ["self", "other"] (defScope sLEq) := ⟨rfl, rfl, rfl, by decide +kernel, rfl, by decide +kernel, by decide +kernel⟩
def hasL (L : Lib) : PyData → Bool
  | .str n => isNameS n && (rowL L n).isSome
  | _ => false
def spLMods (C : Addr) : Sp := fun vs H Q _ => ∃ x L, vs = [.ref x] ∧ LbAt C H x L ∧ ∀ l H', H l = none → Ex H H' → H' l = some (.lst ((L.map (·.1)).map V.str)) → Q (.ref l) H'
def spLHas (C : Addr) : Sp := fun vs H Q _ => ∃ x v d L, vs = [.ref x, v] ∧ LbAt C H x L ∧ Dt H v d ∧ sm d = true ∧ ∀ H', Ex H H' → Q (.bl (hasL L d)) H'
/-! ### equal or not -/
def StepsV (L : Lib) : Prop := ∀ r ∈ L, ∀ ds ∈ r.2, isStep (.tuple ds) = true
def eqL (L L' : Lib) : Bool := (L.length == L'.length) && L.all fun r => match rowL L' r.1 with
  | some r' => PyData.eqv (progD r.2) (progD r'.2)
  | none => false
theorem lay_prog {p : Prog} (h : ∀ ds ∈ p, isStep (.tuple ds) = true) : (progD p).canLay0 = true ∧ (progD p).depth ≤ 2 := by
  have items : ∀ {ds : List PyData}, (∀ d ∈ ds, (∃ i, d = .int i) ∨ ∃ x, d = .str x ∧ isNameS x = true) → PyData.canLayAll0 ds = true ∧ PyData.depthAll ds = 0 := by
    intro ds
    induction ds with
    | nil => exact fun _ => ⟨rfl, rfl⟩
    | cons d r ih =>
      intro h
      obtain ⟨a, b⟩ := ih fun z hz => h z (List.mem_cons_of_mem _ hz)
      rw [PyData.canLayAll0, PyData.depthAll, a, b]
      rcases h d List.mem_cons_self with ⟨i, rfl⟩ | ⟨x, rfl, hx⟩
      · exact ⟨rfl, rfl⟩
      · rw [PyData.canLay0, name_strOk hx]
        exact ⟨rfl, rfl⟩
  have go : ∀ p : Prog, (∀ ds ∈ p, isStep (.tuple ds) = true) → PyData.canLayAll0 (p.map PyData.tuple) = true ∧ PyData.depthAll (p.map PyData.tuple) ≤ 1 := by
    intro p
    induction p with
    | nil => exact fun _ => ⟨rfl, Nat.zero_le _⟩
    | cons ds p ih =>
      intro h
      obtain ⟨a, b⟩ := ih fun d hd => h d (List.mem_cons_of_mem _ hd)
      have st := h ds List.mem_cons_self
      obtain ⟨c, e⟩ := items (ds := ds) fun d hd => by
        have w := (step_wordy st).2 d hd
        cases d with
        | int i => exact .inl ⟨i, rfl⟩
        | str x => exact .inr ⟨x, rfl, step_str st hd⟩
        | _ => exact nomatch w
      rw [List.map_cons, PyData.canLayAll0, PyData.depthAll, a, PyData.canLay0, c, PyData.depth, e]
      exact ⟨rfl, Nat.max_le.mpr ⟨by omega, b⟩⟩
  obtain ⟨a, b⟩ := go p h
  unfold progD
  rw [PyData.canLay0, PyData.depth]
  exact ⟨a, by omega⟩
theorem eqL_self {L : Lib} (hk : (L.map (·.1)).Nodup) (h : StepsV L) : eqL L L = true := by
  unfold eqL
  rw [Bool.and_eq_true, beq_iff_eq, List.all_eq_true]
  refine ⟨rfl, fun r hr => ?_⟩
  rw [rowL_in hk hr]
  exact SeqAt.eqv_refl _ (lay_prog (h r hr)).1
def rEqLK : R2 := fun x y H Q => ∃ (a b : Addr) (kvs kvs' : List (Key × V)) (L L' : Lib), x = .ref a ∧ y = .ref b ∧ H a = some (.dK kvs) ∧ H b = some (.dK kvs') ∧ LKv H kvs L ∧ LKv H kvs' L' ∧ StepsV L ∧ StepsV L' ∧ (L.map (·.1)).Nodup ∧ Q (.bl (eqL L L')) H
theorem kv_mem {k : Key} {u : Value} : ∀ {kvs : List (Key × V)} {va : List (Key × Value)}, KV kvs va → (k, u) ∈ va → ∃ v, (k, v) ∈ kvs ∧ RelV v u
  | [], _, r, h => by cases r; exact nomatch h
  | y :: g, _, r, h => by
    cases r with
    | cons h1 r =>
      rcases List.mem_cons.mp h with e | h
      · obtain ⟨a1, a2⟩ := h1
        subst e
        obtain ⟨yk, yv⟩ := y
        have a1 : yk = k := a1
        subst a1
        exact ⟨yv, List.mem_cons_self, a2⟩
      · obtain ⟨v, hv, e⟩ := kv_mem r h
        exact ⟨v, List.mem_cons_of_mem _ hv, e⟩
theorem kv_allK {f : Key → Bool} : ∀ {kvs : List (Key × V)} {va : List (Key × Value)}, KV kvs va → va.all (fun p => f p.1) = (kvs.map (·.1)).all f
  | [], _, r => by cases r; rfl
  | y :: g, _, r => by
    cases r with
    | cons h1 r =>
      rw [List.all_cons, List.map_cons, List.all_cons, kv_allK r]
      congr 1
      exact congrArg f h1.1.symm
theorem lkv_mem {H : Hp} {k : Key} {v : V} : ∀ {L : Lib} {kvs : List (Key × V)}, LKv H kvs L → (k, v) ∈ kvs → ∃ r ∈ L, k = Sum.inr r.1 ∧ Dt H v (progD r.2)
  | [], kvs, h, m => by rw [lkv_nil h] at m; exact nomatch m
  | r :: L, kvs, h, m => by
    obtain ⟨u, kvs', rfl, hu, h⟩ := lkv_inv h
    rcases List.mem_cons.mp m with e | m
    · cases e
      exact ⟨r, List.mem_cons_self, rfl, hu⟩
    · obtain ⟨y, hy, e⟩ := lkv_mem h m
      exact ⟨y, List.mem_cons_of_mem _ hy, e⟩
section
variable {X : Cx}
theorem op_eqLK (hu : X.A.units + 64 < cLine) : OpR X (compareOp .Eq) rEqLK := by
  intro pins s σ H x y v u Q I rx ry h
  obtain ⟨a, b, kvs, kvs', L, L', rfl, rfl, ea, eb, hL, hL', st, st', nd, q⟩ := h
  obtain rfl : v = Value.ref a := rx
  obtain rfl : u = Value.ref b := ry
  obtain ⟨_, ya, va, ra, da⟩ := (show ObjOk X.prog X.w H s.heap a (.dK kvs) from I.hok a _ ea)
  obtain ⟨_, yb, vb, rb, db⟩ := (show ObjOk X.prog X.w H s.heap b (.dK kvs') from I.hok b _ eb)
  have la := ra.length
  have lb := rb.length
  rw [lkv_len hL] at la
  rw [lkv_len hL'] at lb
  let e : Key → Bool := fun k => match k with
    | .inr n => (match rowL L n, rowL L' n with
      | some r, some r' => PyData.eqv (progD r.2) (progD r'.2)
      | _, _ => false)
    | .inl _ => false
  refine PySem.W.keq_eqIn (knd := mixKind X.prog X.w) (r := va.all fun p => (valueAt vb p.1).isSome && e p.1) ya yb da db (by omega) (fun _ => PySem.W.KeqHitsIn.of _ fun k v' y' hm hv => ?_) ?_
  · obtain ⟨v1, hm1, rv1⟩ := kv_mem ra hm
    obtain ⟨r, hr, rfl, dv1⟩ := lkv_mem hL hm1
    have z := rb.val (Sum.inr r.1)
    rw [hv] at z
    rcases lkv_val r.1 hL' with ⟨_, hn⟩ | ⟨r', v2, hr', hv2, dv2⟩
    · rw [hn] at z
      exact False.elim z
    · rw [hv2] at z
      have rv2 : RelV v2 y' := z
      obtain ⟨as, rd1⟩ := (Dt.shown I dv1 rv1).1
      obtain ⟨bs, rd2⟩ := (Dt.shown I dv2 rv2).1
      have l1 := lay_prog (st r hr)
      have l2 := lay_prog (st' r' (rowL_mem hr').1)
      have ez : e (Sum.inr r.1) = PyData.eqv (progD r.2) (progD r'.2) := by
        show (match rowL L r.1, rowL L' r.1 with
      | some r, some r' => PyData.eqv (progD r.2) (progD r'.2)
      | _, _ => false) = _
        rw [rowL_in nd hr, hr']
      rw [ez]
      refine SeqAt.EqAt.inModel (SeqAt.eqAt_reads _ _ _ _ _ _ _ _ rd1 rd2 l1.1 l2.1 ?_) _ _
      show X.A.units + 1 + _ < _
      have : min (progD r.2).depth (progD r'.2).depth ≤ (progD r.2).depth := Nat.min_le_left _ _
      have := l1.2
      omega
  · refine fin_bl I q ?_
    rw [kv_allK (f := fun k => (valueAt vb k).isSome && e k) ra, ← la, ← lb, lkv_keys hL]
    unfold eqL
    congr 1
    rw [List.all_map]
    have all_c : ∀ {α : Type} {f h : α → Bool} {g : List α}, (∀ r ∈ g, f r = h r) → g.all f = g.all h := fun {α f h g} e => by
      rw [Bool.eq_iff_iff, List.all_eq_true, List.all_eq_true]
      exact ⟨fun z r hr => by rw [← e r hr]; exact z r hr, fun z r hr => by rw [e r hr]; exact z r hr⟩
    refine all_c fun r hr => ?_
    show _ = ((valueAt vb (Sum.inr r.1)).isSome && (match rowL L r.1, rowL L' r.1 with
      | some r, some r' => PyData.eqv (progD r.2) (progD r'.2)
      | _, _ => false))
    rw [rowL_in nd hr]
    have z := rb.val (Sum.inr r.1)
    rcases lkv_val r.1 hL' with ⟨h1, hn⟩ | ⟨r', v2, hr', hv2, _⟩
    · rw [hn] at z
      rw [h1]
      cases hv : valueAt vb (Sum.inr r.1) with
      | none => rfl
      | some y => rw [hv] at z; exact False.elim z
    · rw [hv2] at z
      rw [hr']
      cases hv : valueAt vb (Sum.inr r.1) with
      | none => rw [hv] at z; exact False.elim z
      | some y => rfl
end
section
variable {C x dx : Addr} {m : Str} {sp : Sp} {fs : List (Str × V)} {E : XK} {ta : TE} {t : TA} {σ : L2.St} {H : Hp} {vs xs : List V} {z : V}
theorem ev_mth (h : Ev ta σ H (.ref x)) (ho : H x = some (.ins C dx fs)) (hl : fs.lookup m = none) (ha : EvA t σ H vs) (hs : SpV sp (.ref x :: (vs ++ [])) H z) : Ev (tMeth C m sp [] E ta t) σ H z := fun H1 e Q q =>
  h H1 e _ fun H2 e2 => ⟨x, dx, fs, rfl, (e.trans e2) _ _ ho, hl, ha H2 (e.trans e2) _ fun H3 e3 => hs H3 ((e.trans e2).trans e3) Q (fun H4 e4 => q H4 ((e2.trans e3).trans e4)) E⟩
end
structure KitL (K : PySem.W.Frag) (C : Addr) : Prop where
  n : PySem.W.kitOne K (.type "NoneType") (.ref C) = some false
  i : PySem.W.kitOne K (.type "int") (.ref C) = some false
  s : PySem.W.kitOne K (.type "str") (.ref C) = some false
  l : PySem.W.kitOne K (.type "list") (.ref C) = some false
  t : PySem.W.kitOne K (.type "tuple") (.ref C) = some false
  d : PySem.W.kitOne K (.type "dict") (.ref C) = some false
def spLEq (C : Addr) : Sp := fun vs H Q _ => ∃ (p : Addr) (y : V) (L : Lib), vs = [.ref p, y] ∧ LbAt C H p L ∧ StepsV L ∧ (L.map (·.1)).Nodup ∧
  ((OthB H y ∧ ∀ H', Ex H H' → Q (.bl false) H') ∨ ∃ (p2 : Addr) (L2 : Lib), y = .ref p2 ∧ LbAt C H p2 L2 ∧ StepsV L2 ∧ ∀ H', Ex H H' → Q (.bl (eqL L L2)) H')
section
variable {P : Program} {w : World} {K : PySem.W.Frag} {mg : Str → Option Value} {base : Heap}
theorem ok_leq {f C : Addr} {fd : FuncData} {k : Nat} (F : Fun K "__eq__" "Library.__eq__" sLEq f fd) (B : Blt mg) (T : LbC K mg C) (N : C8.InsC K C) (G : KitL K C) : FnOk P w K mg base CX0 (k + 1) f fd ["self", "other"] (spLEq C) := by
  refine F.ok scLEq (fun vs H Q E h => by obtain ⟨_, _, _, rfl, _⟩ := h; rfl) (fun cdv A outer s H vs Q E hr h => ?_)
  obtain ⟨p, y, L, rfl, lb, st, nd, q⟩ := h
  refine ⟨_, pss_one (ps_ret (pe_and (pe_callB call_isi (by rfl) B.isi bIsi (pa_cons (pv 1) (pa_cons (pe_glob (v := .ref C) (by rfl) T.at_ rfl) pa_nil)))
    (pe_one (pe_cmpR (op_eqLK hr.units) (pe_fld (pv 0) rfl) (pe_fld (pv 1) rfl) (nomark _))))), ?_⟩
  rcases q with ⟨oth, q⟩ | ⟨p2, L2, rfl, lb2, st2, q⟩
  · obtain ⟨t, ty, kt⟩ : ∃ t, TyX K H y t ∧ PySem.W.kitOne K t (.ref C) = some false := by
      cases y with
      | non => exact ⟨_, .base .non, G.n⟩
      | int i => exact ⟨_, .base (.int i), G.i⟩
      | str x => exact ⟨_, .base (.str x), G.s⟩
      | ref p =>
        rcases oth with ⟨xs, z⟩ | ⟨xs, z⟩ | ⟨kvs, z⟩
        · exact ⟨_, .base (.lst z), G.l⟩
        · exact ⟨_, .base (.tup z), G.t⟩
        · exact ⟨_, .base (.dK z), G.d⟩
      | _ => exact False.elim oth
    exact ⟨y, rfl, y, .ref C, t, .ref C, false, rfl, .own C, ty, kt, false, rfl, iteF (q H (Ex.refl H))⟩
  · obtain ⟨dx, dd, kvs, o1, o2, o3⟩ := lb.ob
    obtain ⟨dx2, dd2, kvs2, p1, p3, p4⟩ := lb2.ob
    refine ⟨.ref p2, rfl, .ref p2, .ref C, .ref C, .ref C, true, rfl, .own C, .base (.ins p1 N.cl N.ha N.hn N.htk N.hm), N.me, true, rfl, ?_⟩
    rw [if_pos rfl]
    exact s_ret (te := tOp rEqLK (tFld K (tVar 0) "initializers") (tFld K (tVar 1) "initializers")) (D := { nx := fun _ H' => Q .non H', rt := Q }) (v := .bl (eqL L L2)) (ev_op (ev_fld (ev_var rfl) o1 T.cl T.nI rfl) (ev_fld (ev_var rfl) p1 T.cl T.nI rfl) fun H2 e2 Q' q' => ⟨_, _, kvs, kvs2, L, L2, rfl, rfl, e2 _ _ o2, e2 _ _ p3, DtKv.ex e2 o3, DtKv.ex e2 p4, st, st2, nd, q' H2 (Ex.refl H2)⟩) q
theorem ok_lmods {f C : Addr} {fd : FuncData} {k : Nat} (F : Fun K "modules" "Library.modules" sLMods f fd) (B : Blt mg) (T : LbC K mg C) : FnOk P w K mg base CX0 (k + 1) f fd ["self"] (spLMods C) := by
  refine F.ok scLMods (fun vs H Q E h => by obtain ⟨_, _, rfl, _⟩ := h; rfl) (fun cdv A outer s H vs Q E hr h => ?_)
  obtain ⟨x, L, rfl, lb, q⟩ := h
  obtain ⟨dx, dd, kvs, o1, o2, o3⟩ := lb.ob
  refine ⟨_, pss_one (ps_ret (pe_callTy (call_listD rfl) (by rfl) B.list bList (pa_cons (pe_fld (pv 0) rfl) pa_nil))), ?_⟩
  refine ⟨.ref x, rfl, x, C, dx, _, .ref dd, rfl, o1, T.cl, T.nI, rfl, dd, kvs, rfl, .inl o2, fun p zp => q p _ zp (Ex.new zp) ?_⟩
  rw [upd_same]
  have e : kvs.map (fun kv => kV kv.1) = (L.map (·.1)).map V.str := by
    have z := congrArg (List.map kV) (lkv_keys o3)
    rw [List.map_map, List.map_map] at z
    rw [List.map_map]
    exact z
  rw [e]
theorem ok_lhas {f C : Addr} {fd : FuncData} {k : Nat} (F : Fun K "has_module" "Library.has_module" sLHas f fd) (T : LbC K mg C) (h1 : HasO P w K mg base k "is_name" ["value"] (spD isName)) : FnOk P w K mg base CX0 (k + 1) f fd ["self", "value"] (spLHas C) := by
  obtain ⟨f1, d1, G1, b1, k1, g1⟩ := h1.ex
  refine F.ok scLHas (fun vs H Q E h => by obtain ⟨_, _, _, _, rfl, _⟩ := h; rfl) (fun cdv A outer s H vs Q E hr h => ?_)
  obtain ⟨x, v, d, L, rfl, lb, hd, hs, q⟩ := h
  have hu := hu_of hr
  refine ⟨_, pss_one (ps_ret (pe_and (pe_call (E := E0) G1 hr (by rfl) g1 k1 b1 .nil pass0 (pa_cons (pv 1) pa_nil)) (pe_one (pe_cmp (pc_din hu (pv 1) (pe_fld (pv 0) rfl)))))), ?_⟩
  obtain ⟨dx, dd, kvs, o1, o2, o3⟩ := lb.ob
  refine s_ret (v := .bl (hasL L d)) (ev_is (v := .bl (isName d && hasL L d)) (ev_andV (ev_call (ea_cons (ev_var rfl) ea_nil) (spv_D hd hs)) fun hb => ?_) ?_) q
  · cases d with
    | str n =>
      cases hd
      have hn : isNameS n = true := hb
      refine ev_is (v := .bl (valV kvs (.inr n)).isSome) (fun H1 e1 Q q => ⟨.str n, rfl, .ref x, rfl, x, C, dx, _, .ref dd, rfl, e1 _ _ o1, T.cl, T.nI, rfl, dd, valV kvs (.inr n), rfl, DGet.k (k := Sum.inr n) (e1 _ _ o2), q H1 (Ex.refl H1)⟩) ?_
      show V.bl _ = V.bl (isNameS n && (rowL L n).isSome)
      rw [hn]
      rcases lkv_val n o3 with ⟨h1, h2⟩ | ⟨r, u, h1, h2, _⟩
      · rw [h1, h2]; rfl
      · rw [h1, h2]; rfl
    | _ => exact nomatch hb
  · cases d with
    | str n =>
      show V.bl (isNameS n && (isNameS n && _)) = V.bl (isNameS n && _)
      rw [← Bool.and_assoc, Bool.and_self]
    | _ => rfl
end
end Cr
/-! repr(o) by an own __repr__ that itself asks for texts of data -/
namespace Cr
open PySem PySem.Spec PyProof.Rows L2 Evl
/-- an own method called with the object alone -/
theorem self_call {X : Cx} {pins : List (Addr × Obj)} {σ : L2.St} {H : Hp} {s : Shared} {a f : Addr} {k : Nat} {fd : FuncData} {sp : Sp} {A : Around} {Q : VK} {R : Value → Shared → Prop} {E : Value → Shared → Prop}
    (F : FnG X.prog X.w X.K X.mg X.base CX0 k f fd ["self"] sp) (hb : Binds X.K fd ["self"] []) (hq : Quiet A) (hr : Room k A) (e0 : Env0 X.prog X.w X.K X.mg X.base A X.stack s H) (I : Inv X pins σ H s) (h : sp [.ref a] H Q E0)
    (k : ∀ v u H' s', Inv X pins σ H' s' → RelV v u → Q v H' → R u s') : wpAny (model X.prog X.w) A (call (.ref f) [.ref a]) R E s := by
  refine wpAny_call (codeAny_mono (F.goes A X.stack s H ⟨[.ref a], []⟩ [.ref a] [.ref a] Q E0 hq hr e0 (by
    have z := hb s [.ref a] I.kIn rfl
    simpa using z) (.cons rfl .nil) h) fun res s' z => ?_)
  match res, z with
  | .error _, z => exact z.elim
  | .ok .next, z => exact False.elim z
  | .ok .brk, z => exact False.elim z
  | .ok .cont, z => exact False.elim z
  | .ok (.ret u), z =>
    obtain ⟨v, H', I', rv, q⟩ := I.after z
    exact k v u H' s' I' rv q
def rReprO (C : Addr) (sp : Sp) : List V → Hp → VK → Prop := fun xs H Q => ∃ (a dx : Addr) (fs : List (Str × V)), xs = [.ref a] ∧ H a = some (.ins C dx fs) ∧ sp [.ref a] H (fun v H' => ∃ z : Str, v = .str z ∧ Q (.str z) H') E0
theorem call_reprO {X : Cx} {C f : Addr} {k : Nat} {fd : FuncData} {sp : Sp} (hL : PySem.W.findIn X.K (.ref C) "__repr__" = some (some (.ref f))) (iF : PySem.W.isFn X.K (.ref f) = true)
    (F : FnG X.prog X.w X.K X.mg X.base CX0 k f fd ["self"] sp) (hb : Binds X.K fd ["self"] []) (hq : Quiet X.A) (hr : Room (k + 1) X.A) : CallR X (.builtin "repr") (rReprO C sp) := by
  intro pins s σ H xs us Q I r h
  obtain ⟨a, dx, fs, rfl, ha, h⟩ := h
  obtain ⟨u, rfl, ru⟩ := vals1 r
  obtain rfl : u = Value.ref a := ru
  obtain ⟨mA, J, _⟩ := ins_get I.hok ha
  obtain ⟨od, J, _⟩ := J.look
  refine Calls.call_function_entry PySem.F.kind_repr PySem.F.plain_repr PySem.F.entry_repr (PySem.F.args_repr1 _) ?_
  unfold Builtin.«repr»
  refine wpAny_bind (m := oneArg "repr" _) (wpAny_pure ?_)
  refine wpAny_bind (m := cRoomFor _ _) (wpAny_cRoomFor (by have := hr.un; show X.A.units + 1 < _; omega) ?_)
  have look : PySem.W.Looks (model X.prog X.w) s.heap (specialOf (.ref a) "__repr__") (some (.ref f)) := J.type.andThen (PySem.W.looks_findIn I.kIn hL)
  refine wpAny_bind (look.at ?_)
  refine wpAny_bind (m := callSpecialIfBound? (.ref a) "__repr__") (PySem.W.ifBound_K I.kIn J hL iF (self_call F hb hq hr.in1 (Env0.in1 I.env0) I h ?_))
  rintro v u H' s' I' rv ⟨z, rfl, q⟩
  obtain ⟨t, rfl⟩ := rv
  refine wpAny_bind (wpAny_isInstance (T := "str") (b := true) (typeIs_str _ _ _) isSubtype_str_str ?_)
  exact wpAny_pure ⟨_, rfl, .str z, H', I', ⟨t, rfl⟩, q⟩
/-! ### str(o) by an own __str__ -/
/-! ### f'..{e!r}..', e data at a place -/
end Cr
/-! f'..{e!r}..', e a dict of data -/
namespace Cr
open PySem PySem.Spec PyProof.Rows L2 Evl
def tFmtDct (te : TE) : TE := fun σ H Q => te σ H fun x H1 => ∃ (a : Addr) (kvs : List (Key × V)) (ds : List (PyData × PyData)), x = .ref a ∧ H1 a = some (.dK kvs) ∧ DtKv H1 kvs ds ∧ Fits (.dict ds) ∧ Q (.str (PyData.dict ds).shown) H1
theorem pe_fmtDct {X : Cx} {e : Expr} {te : TE} {pos : Pos} (hq : Quiet X.A) (hu : X.A.units + 64 < cLine) (he : PE X e te) : PE X (.FormattedValue e 114 none pos) (tFmtDct te) := by
  refine ⟨fun pins s σ H Q I h => ?_⟩
  refine wpAny_FormattedValue_repr (thn (he.run pins s σ H _ I h) fun v s1 hv => ?_)
  obtain ⟨x, H1, I1, r1, a, kvs, ds, rfl, h, t, fit, q⟩ := hv
  obtain rfl : v = Value.ref a := r1
  have dp := fit.deep
  have sz := fit.size
  have sw := fit.show1
  obtain ⟨_, sys, us, kv, o, es, ep, g, ex, e, _, ps, _⟩ := (show ObjOk X.prog X.w H1 s1.heap a (.dK kvs) from I1.hok a _ h)
  obtain ⟨sh1, sh2⟩ := shown_pairs kv ps (fun i k v u q r => DtKv.shown I1 t i k v u q r) (DtKv.len t)
  obtain ⟨⟨as, ra⟩, sa⟩ := sh1
  obtain ⟨⟨bs, rb⟩, sb⟩ := sh2
  rw [PyData.showable] at sw
  rw [PyData.depth] at dp
  have R : Reads s1.heap (.ref a) (.dict ds) (a :: as ++ bs) := .dict g ex.1 e ra rb
  have sz2 := sz
  rw [PyData.shown] at sz
  obtain ⟨w1, w2⟩ := PyData.showableKv_split ds sw
  obtain ⟨b1, m1, k1⟩ := sa w1 fun t ht => let ⟨p, hp, hl⟩ := PyData.shownKv_key_le ds t ht; Nat.le_trans hl (Nat.le_trans (dictText_mem_le hp) sz)
  obtain ⟨b2, m2, k2⟩ := sb w2 fun t ht => let ⟨p, hp, hl⟩ := PyData.shownKv_val_le ds t ht; Nat.le_trans hl (Nat.le_trans (dictText_mem_le hp) sz)
  have m := (m1.mono (PyData.depthAll_keys_le ds)).append (m2.mono (PyData.depthAll_vals_le ds))
  refine wpAny_pyReprObj_slot (by omega) ⟨_, g, ex.1⟩ F.slot_dict_repr ?_
  refine call_dict_reprK (s := s1) g ex.1 e sys (not_mem_of_deeper R (by rw [PyData.depth]; omega) m) (ReprEntriesK.of_two es.toList _ _ (k1.more_le (fun b hb => List.mem_append_left _ hb) (PyData.depthAll_keys_le ds)) (k2.more_le (fun b hb => List.mem_append_right _ hb) (PyData.depthAll_vals_le ds)))
    hq (fun b _ => Clear.nil b) (show X.A.units + (PyData.depthKv ds + 1) < cLine by omega) (fun _ _ z => z) (fun h' t tk hk => ?_) (by rw [← PyData.shownKv_eq]; exact sz)
  refine ⟨_, _, rfl, ?_⟩
  rw [PyData.shown, PyData.shownKv_eq] at q
  rw [PyData.shownKv_eq] at sz
  exact wpAny_formatField_str ⟨.str _, H1, (I1.kept (t' := tk) hk).tok _, ⟨_, rfl⟩, q⟩ ⟨.str _, H1, (I1.kept (t' := tk) hk).tok _, ⟨_, rfl⟩, q⟩ sz
end Cr
/-! errors: copied -/
namespace Cr
open PySem PySem.Spec PyProof.Rows L2 Evl
abbrev sCopied : Stmt := topS 1
abbrev nCopied : List Str := ["value", "item", "key"]
theorem scCopied : FnScope nCopied ["value"] (defScope sCopied) := ⟨rfl, rfl, rfl, by decide +kernel, rfl, by decide +kernel, by decide +kernel⟩
/-! ### what is new -/
def dif (H H' : Hp) : Hp := fun a => match H a with | none => H' a | some _ => none
theorem dif_at {H H' : Hp} {a : Addr} {o : HO} (h : H a = none) (h' : H' a = some o) : dif H H' a = some o := by unfold dif; rw [h]; exact h'
theorem dif_get {H H' : Hp} {a : Addr} {o : HO} (h : dif H H' a = some o) : H a = none ∧ H' a = some o := by
  unfold dif at h
  cases e : H a with
  | none => rw [e] at h; exact ⟨rfl, h⟩
  | some u => rw [e] at h; cases h
/-! ### what can be copied -/
def flatD : PyData → Bool
  | .none | .bool _ | .int _ | .str _ => true
  | _ => false
def kdis : List (PyData × PyData) → Bool
  | [] => true
  | e :: r => r.all (fun p => !PyData.eqv e.1 p.1) && kdis r
theorem kdis_nodup {H : Hp} : ∀ {kvs : List (Key × V)} {es : List (PyData × PyData)}, DtKv H kvs es → kdis es = true → (kvs.map (·.1)).Nodup
  | _, _, .nil, _ => List.nodup_nil
  | _, _, .cons (k := k) (kvs := kvs) (es := es) h t, z => by
    rw [kdis, Bool.and_eq_true] at z
    rw [List.map_cons]
    refine List.nodup_cons.mpr ⟨fun m => ?_, kdis_nodup t z.2⟩
    have mem : ∀ {kvs : List (Key × V)} {es : List (PyData × PyData)}, DtKv H kvs es → k ∈ kvs.map (·.1) → ∃ p ∈ es, p.1 = kD k := by
      intro kvs es h
      induction kvs generalizing es with
      | nil => intro m; exact nomatch m
      | cons kv kvs ih =>
        intro m
        cases h with
        | cons h1 h2 =>
          rcases List.mem_cons.mp m with e | e
          · exact ⟨_, List.mem_cons_self, congrArg kD e.symm⟩
          · obtain ⟨p, hp, he⟩ := ih h2 e
            exact ⟨p, List.mem_cons_of_mem _ hp, he⟩
    obtain ⟨p, hp, he⟩ := mem t m
    have y := List.all_eq_true.mp z.1 p hp
    rw [he] at y
    cases k with
    | inl i => simp [kD, PyData.eqv] at y
    | inr x => simp [kD, PyData.eqv] at y
mutual
def cpy : PyData → Bool
  | .none | .bool _ | .int _ | .str _ => true
  | .list xs | .tuple xs => decide (xs.length ≤ 1000) && cpyAll xs
  | .dict es => decide (es.length ≤ 1000) && es.all (fun p => flatD p.2) && kdis es
def cpyAll : List PyData → Bool
  | [] => true
  | x :: xs => cpy x && cpyAll xs
end
mutual
def dpt : PyData → Nat
  | .none | .bool _ | .int _ | .str _ => 0
  | .list xs | .tuple xs => dptAll xs + 1
  | .dict _ => 1
def dptAll : List PyData → Nat
  | [] => 0
  | x :: xs => max (dpt x) (dptAll xs)
end
theorem cpyAll_get : ∀ {ds : List PyData} {i : Nat} {d : PyData}, cpyAll ds = true → ds[i]? = some d → cpy d = true
  | x :: xs, 0, d, h, e => by
    simp at e; subst e
    rw [cpyAll, Bool.and_eq_true] at h
    exact h.1
  | x :: xs, i + 1, d, h, e => by
    rw [cpyAll, Bool.and_eq_true] at h
    exact cpyAll_get (i := i) h.2 (by simpa using e)
theorem dptAll_get : ∀ {ds : List PyData} {i : Nat} {d : PyData}, ds[i]? = some d → dpt d ≤ dptAll ds
  | x :: xs, 0, d, e => by
    simp at e; subst e
    rw [dptAll]
    exact Nat.le_max_left _ _
  | x :: xs, i + 1, d, e => by
    have := dptAll_get (i := i) (ds := xs) (by simpa using e)
    rw [dptAll]
    exact Nat.le_trans this (Nat.le_max_right _ _)
theorem flat_any {H H' : Hp} {v : V} {d : PyData} (h : Dt H v d) (f : flatD d = true) : Dt H' v d := by
  cases h with
  | non => exact .non
  | bl b => exact .bl b
  | int i => exact .int i
  | str x => exact .str x
  | _ => exact nomatch f
theorem flat_eq {H H' : Hp} {v v' : V} {d : PyData} (h : Dt H v d) (h' : Dt H' v' d) (f : flatD d = true) : v' = v := by
  cases h with
  | non => cases h'; rfl
  | bl b => cases h'; rfl
  | int i => cases h'; rfl
  | str x => cases h'; rfl
  | _ => exact nomatch f
theorem flatKv {H H' : Hp} : ∀ {kvs : List (Key × V)} {es : List (PyData × PyData)}, DtKv H kvs es → es.all (fun p => flatD p.2) = true → DtKv H' kvs es
  | _, _, .nil, _ => .nil
  | _, _, .cons h t, f => by
    rw [List.all_cons, Bool.and_eq_true] at f
    exact .cons (flat_any h f.1) (flatKv t f.2)
theorem kv_get {H : Hp} : ∀ {kvs : List (Key × V)} {es : List (PyData × PyData)} {i : Nat} {k : Key} {v : V}, DtKv H kvs es → kvs[i]? = some (k, v) → ∃ e, es[i]? = some e ∧ Dt H v e.2
  | _, _, 0, _, _, .cons h _, e => by
    simp at e
    obtain ⟨rfl, rfl⟩ := e
    exact ⟨_, rfl, h⟩
  | _, _, i + 1, _, _, .cons _ t, e => by
    obtain ⟨x, h1, h2⟩ := kv_get (i := i) t (by simpa using e)
    exact ⟨x, by simpa using h1, h2⟩
theorem valV_at {k : Key} {v : V} : ∀ {kvs : List (Key × V)} {i : Nat}, (kvs.map (·.1)).Nodup → kvs[i]? = some (k, v) → valV kvs k = some v ∧ valV (kvs.take i) k = none
  | kv :: r, 0, nd, e => by
    simp at e
    subst e
    exact ⟨valV_pos rfl, rfl⟩
  | kv :: r, i + 1, nd, e => by
    rw [List.map_cons] at nd
    obtain ⟨n1, n2⟩ := List.nodup_cons.mp nd
    have e' : r[i]? = some (k, v) := by simpa using e
    obtain ⟨h1, h2⟩ := valV_at n2 e'
    have ne : ¬ kv.1 = k := fun z => n1 (by rw [z]; exact List.mem_map.mpr ⟨(k, v), List.mem_of_getElem? e', rfl⟩)
    exact ⟨(valV_neg ne).trans h1, by rw [List.take_succ_cons, valV_neg ne]; exact h2⟩
def spCopied : Nat → Sp
  | 0 => fun _ _ _ _ => False
  | n + 1 => fun vs H Q _ => ∃ (v : V) (d : PyData), vs = [v] ∧ Dt H v d ∧ cpy d = true ∧ dpt d ≤ n ∧ ∀ v' H', Ex H H' → Dt (dif H H') v' d → Q v' H'
/-! ### a list of copies -/
structure Cop (H H' : Hp) (D : Addr) (ys : List V) (ds : List PyData) : Prop where
  ex : Ex H H'
  hD : H' D = some (.lst ys)
  dt : DtAll (dif (upd H D (.lst [])) H') ys ds
theorem Cop.add {H H' H2 : Hp} {D : Addr} {ys : List V} {ds : List PyData} {v : V} {d : PyData} (c : Cop H H' D ys ds) (zD : H D = none) (e2 : Ex H' H2) (hv : Dt (dif H' H2) v d) : Cop H (upd H2 D (.lst (ys ++ [v]))) D (ys ++ [v]) (ds ++ [d]) := by
  refine ⟨Ex.mut (c.ex.trans e2) zD, upd_same, ?_⟩
  have n0 : ∀ {a : Addr}, upd H D (.lst []) a = none → a ≠ D := fun h e => by rw [e, upd_same] at h; cases h
  have old : Ex (dif (upd H D (.lst [])) H') (dif (upd H D (.lst [])) (upd H2 D (.lst (ys ++ [v])))) := fun a o h => by
    obtain ⟨h1, h2⟩ := dif_get h
    exact dif_at h1 (by rw [upd_ne (n0 h1)]; exact e2 _ _ h2)
  have new : Ex (dif H' H2) (dif (upd H D (.lst [])) (upd H2 D (.lst (ys ++ [v])))) := fun a o h => by
    obtain ⟨h1, h2⟩ := dif_get h
    have aD : a ≠ D := fun e => by rw [e, c.hD] at h1; cases h1
    refine dif_at ?_ (by rw [upd_ne aD]; exact h2)
    rw [upd_ne aD]
    exact fresh_back c.ex h1
  exact DtAll.append (DtAll.ex old c.dt) (.cons (Dt.ex new hv) .nil)
theorem Cop.all {H H' : Hp} {D : Addr} {ys : List V} {ds : List PyData} (c : Cop H H' D ys ds) (zD : H D = none) : DtAll (dif H H') ys ds := by
  refine DtAll.ex (fun a o h => ?_) c.dt
  obtain ⟨h1, h2⟩ := dif_get h
  refine dif_at ?_ h2
  by_cases e : a = D
  · rw [e]; exact zD
  · rw [upd_ne e] at h1; exact h1
section
variable {P : Program} {w : World} {K : PySem.W.Frag} {mg : Str → Option Value} {base : Heap}
theorem ok_copied {f : Addr} {fd : FuncData} {n : Nat} (F : Fun K "copied" "copied" sCopied f fd) (B : Blt mg) (h0 : HasO P w K mg base n "copied" ["value"] (spCopied n)) : FnOk P w K mg base CX0 (n + 1) f fd ["value"] (spCopied (n + 1)) := by
  obtain ⟨fC, dC, GC, bC, kC, gC⟩ := h0.ex
  refine F.ok scCopied (fun vs H Q E h => by obtain ⟨_, _, rfl, _⟩ := h; rfl) (fun cdv A outer s H vs Q E hr h => ?_)
  obtain ⟨v, d, rfl, hd, hc, hn, q⟩ := h
  have hu := hu_of hr
  refine ⟨_, pss_cons (ps_if (pt_val (pe_callB call_isi (by rfl) B.isi bIsi (pa_cons (pv 0) (pa_cons (pe_bltn (v := .ty "list") (by rfl) B.list bList rfl) pa_nil)))) (pss_one (ps_ret
      (pe_lc (own := [("item", 1)]) (g := gName 1) (tt := tYes) rfl scCopied.nd (pi_list (pv 0)) (blkOk_by (own := [("item", 1)]) (N := nCopied) (sc := defScope sCopied) (by decide +kernel))
        (fun _ _ _ _ _ => pg_name (i := 1) scCopied.nd rfl (Or.inl rfl)) (fun _ _ _ _ _ => pts_nil) (fun _ _ _ _ _ => pe_call GC hr (by rfl) gC kC bC .nil pass0 (pa_cons (pv 1) pa_nil))))) pss_nil)
    (pss_cons (ps_if (pt_val (pe_callB call_isi (by rfl) B.isi bIsi (pa_cons (pv 0) (pa_cons (pe_bltn (v := .ty "tuple") (by rfl) B.tuple bTuple rfl) pa_nil)))) (pss_one (ps_ret (pe_callTy call_tuple_of (by rfl) B.tuple bTuple (pa_cons
      (pe_lc (own := [("item", 1)]) (g := gName 1) (tt := tYes) rfl scCopied.nd (pi_tup (pv 0)) (blkOk_by (own := [("item", 1)]) (N := nCopied) (sc := defScope sCopied) (by decide +kernel))
        (fun _ _ _ _ _ => pg_name (i := 1) scCopied.nd rfl (Or.inl rfl)) (fun _ _ _ _ _ => pts_nil) (fun _ _ _ _ _ => pe_call GC hr (by rfl) gC kC bC .nil pass0 (pa_cons (pv 1) pa_nil))) pa_nil)))) pss_nil)
    (pss_cons (ps_if (pt_val (pe_callB call_isi (by rfl) B.isi bIsi (pa_cons (pv 0) (pa_cons (pe_bltn (v := .ty "dict") (by rfl) B.dict bDict rfl) pa_nil)))) (pss_one (ps_ret (pe_lock
      (pe_dc (own := [("key", 2)]) (g := gName 2) (tt := tYes) (tk := tVar 2) (tv := tCall (spCopied n) [] E0 (tCons (tDGet (tVar 0) (tVar 2)) tNil)) rfl scCopied.nd (pi_keys (pv 0)) (blkOk_by (own := [("key", 2)]) (N := nCopied) (sc := defScope sCopied) (by decide +kernel))
        (fun _ _ _ _ _ => pg_name (i := 2) scCopied.nd rfl (Or.inl rfl)) (fun _ _ _ _ _ => pts_nil) (fun _ _ _ _ _ => pv 2) (fun _ _ _ _ _ => by exact pe_call GC hr (by rfl) gC kC bC .nil pass0 (pa_cons (pe_dget hu (pv 0) (pv 2) (fun _ _ => rfl)) pa_nil)))))) pss_nil)
    (pss_one (ps_ret (pv 0))))), ?_⟩
  have isv : ∀ {T : String} {H' : Hp}, T ∈ ["int", "bool", "str", "list", "tuple", "dict"] → Ex H H' → Ev (tCB (rIsi K) (tCons (tVar 0) (tCons (tC (.ty T)) tNil))) (L2.start nCopied [v]) H' (.bl (isT T d)) := fun hT e => ev_cb (ea_cons (ev_var rfl) (ea_cons ev_c ea_nil)) (rc_isi (Dt.ex e hd) hT)
  have cop0 : ∀ {D : Addr}, H D = none → Cop H (upd H D (.lst [])) D [] [] := fun zD => ⟨Ex.new zD, upd_same, .nil⟩
  have dep : ∀ {ds : List PyData} {i : Nat} {e : PyData}, cpyAll ds = true → dptAll ds + 1 ≤ n → ds[i]? = some e → ∀ {H' : Hp} {x : V} {Q' : VK}, Dt H' x e → (∀ v' H2, Ex H' H2 → Dt (dif H' H2) v' e → Q' v' H2) → spCopied n [x] H' Q' E0 := fun {ds i e} hca hdp he {H' x Q'} hx k => by
    cases n with
    | zero => omega
    | succ m =>
      have := dptAll_get he
      exact ⟨x, e, rfl, hx, cpyAll_get hca he, by omega, k⟩
  cases hd with
  | @lst a xs ds ha hxs =>
    rw [cpy, Bool.and_eq_true] at hc
    have hl : ds.length ≤ 1000 := of_decide_eq_true hc.1
    have lx := hxs.length
    rw [dpt] at hn
    refine q_when (b := true) (et_is (et_B (isv (by decide) (Ex.refl H))) rfl) (fun _ H1 e1 => ?_) (fun z => nomatch z)
    refine ⟨.ref a, rfl, a, rfl, ⟨_, sq_of (e1 _ _ ha)⟩, fun D zD => ?_⟩
    have zD0 := fresh_back e1 zD
    refine lc_list (fun i H' => ∃ ys, Cop H1 H' D ys (ds.take i)) ⟨[], Ex.new zD, upd_same, .nil⟩ (fun i H' _ h => by obtain ⟨ys, c⟩ := h; exact sq_of (c.ex _ _ (e1 _ _ ha))) (fun i x H' hx h => ?_) (fun H' h => ?_)
    · obtain ⟨ys, c⟩ := h
      obtain ⟨e, he, hxe⟩ := hxs.get hx
      have hi : i < ds.length := (List.getElem?_eq_some_iff.mp he).1
      have ly := c.dt.length
      rw [List.length_take] at ly
      refine ⟨rfl, x, rfl, ?_⟩
      dsimp only [tNil]
      refine dep hc.2 hn he (Dt.ex (e1.trans c.ex) hxe) fun v' H2 e2 hv' => ⟨ys, e2 _ _ c.hD, sz_lt (by omega), ys ++ [v'], ?_⟩
      have tk : ds.take (i + 1) = ds.take i ++ [e] := by
        rw [List.take_succ, he]
        rfl
      rw [tk]
      exact c.add zD e2 hv'
    · obtain ⟨ys, c⟩ := h
      rw [lx, List.take_length] at c
      refine q (.ref D) H' (e1.trans c.ex) (.lst (dif_at zD0 c.hD) (DtAll.ex (fun a o z => ?_) (c.all zD)))
      obtain ⟨z1, z2⟩ := dif_get z
      exact dif_at (fresh_back e1 z1) z2
  | @tup a xs ds ha hxs =>
    rw [cpy, Bool.and_eq_true] at hc
    have hl : ds.length ≤ 1000 := of_decide_eq_true hc.1
    have lx := hxs.length
    rw [dpt] at hn
    have hT : ∀ {H' : Hp}, Ex H H' → Dt H' (.ref a) (.tuple ds) := fun e => Dt.ex e (.tup ha hxs)
    refine q_when (b := false) (et_is (et_B (isv (by decide) (Ex.refl H))) rfl) (fun z => nomatch z) (fun _ H0 e0 => ?_)
    refine q_when (b := true) (et_is (et_B (isv (by decide) e0)) rfl) (fun _ H1 e01 => ?_) (fun z => nomatch z)
    have e1 := e0.trans e01
    refine ⟨.ref a, rfl, a, rfl, ⟨_, st_of (e1 _ _ ha)⟩, fun D zD => ?_⟩
    have zD0 := fresh_back e1 zD
    refine lc_tup (fun i H' => ∃ ys, Cop H1 H' D ys (ds.take i)) ⟨[], Ex.new zD, upd_same, .nil⟩ (fun i H' _ h => by obtain ⟨ys, c⟩ := h; exact st_of (c.ex _ _ (e1 _ _ ha))) (fun i x H' hx h => ?_) (fun H' h => ?_)
    · obtain ⟨ys, c⟩ := h
      obtain ⟨e, he, hxe⟩ := hxs.get hx
      have hi : i < ds.length := (List.getElem?_eq_some_iff.mp he).1
      have ly := c.dt.length
      rw [List.length_take] at ly
      refine ⟨rfl, x, rfl, ?_⟩
      dsimp only [tNil]
      refine dep hc.2 hn he (Dt.ex (e1.trans c.ex) hxe) fun v' H2 e2 hv' => ⟨ys, e2 _ _ c.hD, sz_lt (by omega), ys ++ [v'], ?_⟩
      have tk : ds.take (i + 1) = ds.take i ++ [e] := by
        rw [List.take_succ, he]
        rfl
      rw [tk]
      exact c.add zD e2 hv'
    · obtain ⟨ys, c⟩ := h
      rw [lx, List.take_length] at c
      refine ⟨D, ys, rfl, .inl ⟨sq_of c.hD, fun t zt => ?_⟩⟩
      have et := Ex.new (o := .tup ys) zt
      refine q (.ref t) _ ((e1.trans c.ex).trans et) (.tup (dif_at (fresh_back (e1.trans c.ex) zt) upd_same) (DtAll.ex (fun a o z => ?_) (c.all zD)))
      obtain ⟨z1, z2⟩ := dif_get z
      exact dif_at (fresh_back e1 z1) (et _ _ z2)
  | @dct a kvs es ha hkv =>
    rw [cpy, Bool.and_eq_true, Bool.and_eq_true] at hc
    have hl : es.length ≤ 1000 := of_decide_eq_true hc.1.1
    have lx := hkv.len
    have nd := kdis_nodup hkv hc.2
    rw [dpt] at hn
    refine q_when (b := false) (et_is (et_B (isv (by decide) (Ex.refl H))) rfl) (fun z => nomatch z) (fun _ H0 e0 => ?_)
    refine q_when (b := false) (et_is (et_B (isv (by decide) e0)) rfl) (fun z => nomatch z) (fun _ H01 e01 => ?_)
    refine q_when (b := true) (et_is (et_B (isv (by decide) (e0.trans e01))) rfl) (fun _ H1 e02 => ?_) (fun z => nomatch z)
    have e1 := (e0.trans e01).trans e02
    refine ⟨a, .dK kvs, e1 _ _ ha, trivial, fun od => ⟨.ref a, rfl, a, od, rfl, .inl ⟨kvs, upd_same, fun D zD => ?_⟩⟩⟩
    have Da : D ≠ a := fun e => by rw [e, upd_same] at zD; cases zD
    have zD1 : H1 D = none := by rw [upd_ne Da] at zD; exact zD
    have wk := walk_keys (d := a) (o := od) (kvs := kvs)
    refine ⟨fun i m H' => m = kvs.length - i ∧ i ≤ kvs.length ∧ H' a = some (.frz od (.dK kvs)) ∧ (∀ c o, c ≠ a → H1 c = some o → H' c = some o) ∧ H' D = some (.dK (kvs.take i)), ⟨kvs.length, rfl, Nat.zero_le _, by rw [upd_ne Da.symm, upd_same], fun c o nc h => by rw [upd_ne (ne_of_none h zD1), upd_ne nc]; exact h, upd_same⟩, ?_⟩
    rintro i m H' ⟨rfl, hi, ha', old, hD⟩
    by_cases hlt : i < kvs.length
    · refine .inr ⟨wk.goes i H' hlt ha', fun H2 => H2 a = some (.frz od (.dK kvs)) ∧ (∀ c o, c ≠ a → H1 c = some o → H2 c = some o) ∧ H2 D = some (.dK (kvs.take (i + 1))), fun H2 z => ⟨kvs.length - (i + 1), by omega, rfl, hlt, z.1, z.2.1, z.2.2⟩, fun x H2 y => ?_⟩
      obtain ⟨rfl, k, v, hk, rfl⟩ := wk.yields i H' x H2 hlt ha' y
      obtain ⟨g1, g2⟩ := valV_at nd hk
      obtain ⟨e, he, hve⟩ := kv_get hkv hk
      have fe : flatD e.2 = true := List.all_eq_true.mp hc.1.2 e (List.mem_of_getElem? he)
      refine ⟨rfl, kV k, rfl, .ref a, rfl, kV k, rfl, a, v, rfl, .inl ⟨kvs, k, .inr ⟨od, ha'⟩, rfl, g1.symm⟩, ?_⟩
      dsimp only [tNil]
      obtain ⟨n', rfl⟩ : ∃ n', n = n' + 1 := ⟨n - 1, by omega⟩
      refine ⟨v, e.2, rfl, flat_any hve fe, ?_, ?_, fun v' H3 e3 hv' => ?_⟩
      · cases hq : e.2 <;> rw [hq] at fe <;> first | rfl | exact nomatch fe
      · cases hq : e.2 <;> rw [hq] at fe <;> first | exact Nat.zero_le _ | exact nomatch fe
      · have ev := flat_eq hve hv' fe
        subst ev
        have hz : H2 a = some (.frz od (.dK kvs)) := ha'
        refine ⟨_, k, rfl, e3 _ _ hD, sz_lt (by rw [List.length_take]; omega), ?_, fun c o nc h => ?_, ?_⟩
        · rw [upd_ne Da.symm]; exact e3 _ _ hz
        · rw [upd_ne (ne_of_none h zD1)]; exact e3 _ _ (old c o nc h)
        · rw [upd_same, L2.putK_new _ g2, List.take_succ, hk]; rfl
    · have ei : i = kvs.length := by omega
      subst ei
      rw [List.take_length] at hD
      refine .inl ⟨wk.stops H' ha', ha', ?_⟩
      refine q (.ref D) _ (fun c o h => ?_) (.dct (dif_at (fresh_back e1 zD1) (by rw [upd_ne Da]; exact hD)) (flatKv hkv hc.1.2))
      by_cases ec : c = a
      · rw [ec, upd_same]
        rw [ec, ha] at h
        exact h
      · rw [upd_ne ec]
        exact old c o ec (e1 _ _ h)
  | _ =>
    refine q_when (b := false) (et_is (et_B (isv (by decide) (Ex.refl H))) rfl) (fun z => nomatch z) (fun _ H1 e1 => ?_)
    refine q_when (b := false) (et_is (et_B (isv (by decide) e1)) rfl) (fun z => nomatch z) (fun _ H2 e2 => ?_)
    refine q_when (b := false) (et_is (et_B (isv (by decide) (e1.trans e2))) rfl) (fun z => nomatch z) (fun _ H3 e3 => ?_)
    refine ⟨_, rfl, q _ H3 ((e1.trans e2).trans e3) (by constructor)⟩
/-- at every depth -/
theorem copied_all {h : Heap} (X : K.In h) (G : h.Ns mainGlobals mg) (D : DefAt K "copied" sCopied) (B : Blt mg) : ∀ n : Nat, HasO P w K mg base n "copied" ["value"] (spCopied n)
  | 0 => hasO_mk X G D (fun _ _ _ _ _ _ us hl => match us, hl with | [_], _ => rfl) fun f fd F => ⟨fun _ _ _ _ z => z.elim, fun _ _ _ _ _ _ _ _ _ _ _ _ _ z => z.elim⟩
  | n + 1 => hasO_mk X G D (fun _ _ _ _ _ _ us hl => match us, hl with | [_], _ => rfl) fun f fd F => ok_copied F B (copied_all X G D B n)
end
end Cr
/-! own errors as values: made, asked, read -/
/-! super().__init__(..) first, then statements that call (Room is told) -/
namespace Cr
open PySem PySem.Spec PyProof.Rows L2 Evl
section
variable {P : Program} {w : World} {K : PySem.W.Frag} {mg : Str → Option Value} {base : Heap}
theorem okSupGR {name qual : Str} {params : Arguments} {scope : Scope} {dV kV doc pm ct oc : Value} {an od : Option Addr} {osl : Array (Option Value)} {f C cda cc : Addr} {b : XB} {N ps : List Str} {k : Nat} {sp : Sp}
    {p0 p1 p2 p3 p4 : Pos} {e : Expr} {es : List Expr} {rest : List Stmt} {ar : Arg}
    (lk : K.lookup f = some ⟨oc, od, .func (PySem.W.ksFn name qual params (.Expr (.Call (.Attribute (.Call (.Name "super" p0) [] [] p1) "__init__" p2) (e :: es) [] p3) p4 :: rest) scope dV kV doc pm an (.ref cda) ct cc), osl⟩)
    (hcd : PySem.W.codeIn K (.ref cda) qual = true) (S : SupScope N ps scope) (T : SupG P K C cda cc b) (hsup : mg "super" = none)
    (hp0 : (params.posonlyargs ++ params.args).head? = some ar) (hself : N[0]? = some ar.arg) (hps : ar.arg ∈ ps)
    (len : ∀ vs H Q E, sp vs H Q E → vs.length = ps.length)
    (hbody : ∀ (A : Around) (outer : List Env) (s : Shared) (H : Hp) (vs : List V) (Q : VK) (E : XK), Room k (A.deeper (PySem.W.ksEnv qual scope s.heap.objs.size f (.ref cda) cc)) → sp vs H Q E →
      ∃ (a : Addr) (ta : TA) (t : TS), (L2.start N vs)[0]? = some (some (.ref a)) ∧ H a = some (exo a C none) ∧ PA (cxSup P w K mg base N qual scope f cda cc A outer s H) (e :: es) ta ∧
        PSs (cxSup P w K mg base N qual scope f cda cc A outer s H) rest t ∧
        ta (L2.start N vs) H fun ws H1 => ws.length ≤ 1000 ∧ H1 a = some (exo a C none) ∧ t { nx := fun _ H' => Q .non H', rt := Q } (L2.start N vs) H1)
    {pl : Addr → Sem Bool}
    (hc : ∀ L : Addr, eval (.Call (.Attribute (.Call (.Name "super" p0) [] [] p1) "__init__" p2) (e :: es) [] p3) (PySem.W.ksEnv qual scope L f (.ref cda) cc) = (do
      let ov ← attributeBase (.Call (.Name "super" p0) [] [] p1) "__init__" (PySem.W.ksEnv qual scope L f (.ref cda) cc) (eval (.Call (.Name "super" p0) [] [] p1) (PySem.W.ksEnv qual scope L f (.ref cda) cc))
      standAt p2.atName
      let (fx, first) ← holding [ov] (getMethod ov "__init__" (pl L))
      callWith p3 fx first (backTo p3 (starEach (e :: es) (PySem.W.ksEnv qual scope L f (.ref cda) cc))) []) := by intro _; rfl)
    (hint : ∀ L : Addr, interactive (PySem.W.ksEnv qual scope L f (.ref cda) cc) = false := by intro _; rfl)
    (hsw : ∀ L : Addr, swapsWith (.Call (.Attribute (.Call (.Name "super" p0) [] [] p1) "__init__" p2) (e :: es) [] p3) none p4.line (PySem.W.ksEnv qual scope L f (.ref cda) cc) = pure false := by intro _; rfl)
    (he : ∀ L : Addr, starEach (e :: es) (PySem.W.ksEnv qual scope L f (.ref cda) cc) = (false, eval e (PySem.W.ksEnv qual scope L f (.ref cda) cc)) :: starEach es (PySem.W.ksEnv qual scope L f (.ref cda) cc) := by intro _; rfl)
    (hpl : ∀ L : Addr, (backTo p3 (starEach es (PySem.W.ksEnv qual scope L f (.ref cda) cc))).any (·.1) = false := by intro _; rfl) :
    FnOk P w K mg base CX0 (k + 1) f (PySem.W.ksFn name qual params (.Expr (.Call (.Attribute (.Call (.Name "super" p0) [] [] p1) "__init__" p2) (e :: es) [] p3) p4 :: rest) scope dV kV doc pm an (.ref cda) ct cc) ps sp := by
  refine ⟨len, fun A outer s H args us vs Q E hr e0 hb r hsp => ?_⟩
  have keepB : ∀ b o, base.get? b = some o → s.heap.get? b = some o := fun b o e => (e0.bs b o e).1
  obtain ⟨cl, cld, csl, hcell⟩ := T.cell
  obtain ⟨ccl, cdd, cvs, ccs, file, tf, hcode, hvs, hfile⟩ := T.code
  refine ks_codeAny_call_defAt (fd := PySem.W.ksFn name qual params _ scope dV kV doc pm an (.ref cda) ct cc) (binds := ps.zip us) hr.depth ((e0.mod.kin.keeps keepB) _ _ lk) rfl (e0.mod.nolimit.keeps keepB) (PySem.W.codeRec_of (e0.mod.kin.keeps keepB) hcd) rfl hb S.nocell
    (fun x hx => S.par x.1 (List.of_mem_zip (show (x.1, x.2) ∈ ps.zip us from hx)).1) (fun h₁ hns hk => ?_) S.co S.gen S.kind
  obtain ⟨a, ta, t, hs0, hea, hta, ht, hT⟩ := hbody A outer s H vs Q E (hr.deeper _) hsp
  have I : Inv (cxSup P w K mg base N qual scope f cda cc A outer s H) [] (L2.start N vs) H { s with heap := h₁, toks := s.toks + (ps.zip us).length } := inv_sup S hr.hd e0 (len _ _ _ _ hsp) r hcell hns hk
  have kIn := I.kIn
  obtain ⟨m, hn, hlk⟩ := I.loc
  obtain ⟨u0, hu0, hl0⟩ := hlk 0 ar.arg (.ref a) hself hs0 (.inl (S.par _ hps))
  obtain rfl : u0 = Value.ref a := hu0
  have hma : m ar.arg = some (.ref a) := by
    rcases hl0 with ⟨_, z⟩ | ⟨z, _⟩
    · exact z
    · have k1 : scope.names.lookup ar.arg = some .local := S.par _ hps
      rcases z with z | z
      · have z' : scope.names.lookup ar.arg = some .cell := z
        rw [k1] at z'; cases z'
      · have z' : scope.names.lookup ar.arg = some .free := z
        rw [k1] at z'; cases z'
  obtain ⟨t1, ho⟩ := exo_at I.hok hea
  obtain ⟨nm, q, N', bs, bm, sn, sub, ab, col, dd, k0, k1, k2, k3, k5, hC, hbm⟩ := T.oex.cls
  have hcl : PySem.W.clsIn K C = some { name := nm, bases := bs, mro := .ref C :: bm, ns := N', qualname := q, hasDict := true, slotNames := sn, subclasses := sub, abstract := ab, collection := col, hasDel := false } := by unfold PySem.W.clsIn; rw [hC] <;> rfl
  obtain ⟨mb, hmb, hbb⟩ := I.mod.blt
  have J : PySem.W.InstAt h₁ a { cls := .ref C, dict := none, data := .fields #[.ref t1, .none, .none, .none, .bool false, .none] } C none := ⟨ho, rfl, rfl, trivial⟩
  have hne : a ≠ C := PySem.W.ks_ne kIn J hcl
  show PySem.wpAt (model P w) (A.deeper (PySem.W.ksEnv qual scope s.heap.objs.size f (.ref cda) cc)) (.func _ (PySem.W.ksEnv qual scope s.heap.objs.size f (.ref cda) cc)) (execs _ (PySem.W.ksEnv qual scope s.heap.objs.size f (.ref cda) cc)) _ _ _
  refine ks_wpAt_execs_cons (ks_wpAt_Expr_any (ks_wpAt_MethodCall (pl := pl s.heap.objs.size) (ks_wpAt_super_base (f := f) S.sup S.cls (by decide) rfl (kIn _ _ lk) rfl hp0 rfl (kIn _ _ hcode) rfl hvs hfile T.top ?_) (hc _)) (hint _) (hsw _))
  refine PySem.W.ks_loadName_global S.kind S.sup (PySem.Calls.loadGlobal_builtin (mg := mg) (mb := mb) (I.mod.glob.keeps I.bk) hsup (hmb.keeps I.bk) ((hbb _ (by decide +kernel)).trans (by first | boot_by_name | rfl | kernel_rfl)) ⟨rfl, ?_⟩)
  refine wpAny_loadName_free S.kind S.cls rfl ⟨_, kIn _ _ hcell, rfl⟩ ?_
  refine wpAny_loadName_local S.kind (S.par _ hps) hn hma ?_
  refine ks_wpAny_isType_cls (kIn _ _ hC) rfl ⟨rfl, ?_⟩
  refine ks_wpAny_call_super (kIn _ _ hC) rfl ho rfl (fun c z => by cases z) (PySem.W.looks_mroIn kIn T.self) (fun h2 e2 kk2 => ?_)
  have I2 : Inv (cxSup P w K mg base N qual scope f cda cc A outer s H) [] (L2.start N vs) H { s with heap := h2, toks := s.toks + (ps.zip us).length } := I.kept (t' := s.toks + (ps.zip us).length) kk2
  have hm2 := T.up
  unfold PySem.W.ks_superIn at hm2
  rw [hcl] at hm2
  have J2 : PySem.W.InstAt h2 a { cls := .ref C, dict := none, data := .fields #[.ref t1, .none, .none, .none, .bool false, .none] } C none := ⟨kk2 _ _ ho, rfl, rfl, trivial⟩
  refine PySem.W.kxs_getMethod T.oex.ok.sup e2 (PySem.W.looks_opaque I2.kIn T.opq) (l₀ := .ref C :: bm) (fun A Q E s k q => wpAny_bind ((PySem.W.looks_clsIn I2.kIn hcl) A _ E s k (wpAny_pure q))) rfl I2.kIn hm2
    (J2.type.andThen (PySem.W.looks_subIn I2.kIn T.sub)) hne (by decide) ?_
  have kk3 : ∀ b' o, h2.get? b' = some o → (h2.push (PySem.W.kxs_mw b.ini a)).get? b' = some o := fun b' o z => Heap.get?_push_of_some _ z
  have I3 : Inv (cxSup P w K mg base N qual scope f cda cc A outer s H) [] (L2.start N vs) H { s with heap := h2.push (PySem.W.kxs_mw b.ini a), toks := s.toks + (ps.zip us).length + 1 } := I2.kept (t' := s.toks + (ps.zip us).length + 1) kk3
  have I4 : Inv (cxSup P w K mg base N qual scope f cda cc A outer s H) [(h2.objs.size, PySem.W.kxs_mw b.ini a)] (L2.start N vs) H { s with heap := h2.push (PySem.W.kxs_mw b.ini a), toks := s.toks + (ps.zip us).length + 1 } :=
    ⟨I3.ok, I3.os, I3.bare, I3.base, I3.loc, I3.cell, I3.free, I3.freeC, fun p hp => by
      have hp' : p = (h2.objs.size, PySem.W.kxs_mw b.ini a) := List.mem_singleton.mp hp
      subst hp'
      exact ⟨Heap.get?_push_at rfl rfl, I2.hok.fresh (Nat.le_refl _), Nat.ne_of_gt I2.lt, I2.nofs (Nat.le_refl _), fun v z => by cases z⟩, I3.hok, I3.len⟩
  have hev := he s.heap.objs.size
  have hpv := hpl s.heap.objs.size
  show wpAny (model P w) _ (callWith p3 (.ref h2.objs.size) [] (backTo p3 (starEach (e :: es) (PySem.W.ksEnv qual scope s.heap.objs.size f (.ref cda) cc))) []) _ _ _
  have ru := hta.run p3 _ _ _ _ _ I4 hT
  have ru' : wpAny (model P w) (A.deeper (PySem.W.ksEnv qual scope s.heap.objs.size f (.ref cda) cc)) (spliced (backTo p3 (starEach (e :: es) (PySem.W.ksEnv qual scope s.heap.objs.size f (.ref cda) cc)))) _ (fun _ _ => False) _ := ru
  rw [hev] at ru' ⊢
  refine PySem.W.kxs_callWith (i := b.ini) (x := a) (by show (false || (backTo p3 (starEach es _)).any (·.1)) = false; rw [hpv]; rfl) (PySem.Calls.evalArgs_plain ?_)
  refine wpAny_mono ru' (fun ws s5 h5 => ?_) fun _ _ z => z.elim
  obtain ⟨vs5, H5, I5, r5, hl5, he5, hT5⟩ := h5
  have hu5 := (I5.pin _ (List.mem_append_right _ List.mem_cons_self)).1
  refine ⟨hu5, ?_⟩
  refine boundG T.oex I5 he5 hu5 (by show ws.length ≤ sizeLine; rw [← Paired.length r5, sizeLine_eq]; omega) fun s6 I6 => ?_
  have go := ht.run _ _ _ _ _ I6 hT5
  refine wpAt_of_wpAny ?_
  refine wpAny_mono go (fun fl s7 h7 => ?_) fun _ _ z => z.elim
  match fl, h7 with
  | .ret u, ⟨v, σ2, H2, J7, rv, q7⟩ => exact ⟨v, H2, J7.os, J7.bare, J7.base, J7.hok, rv, q7⟩
  | .next, ⟨σ2, H2, J7, q7⟩ => exact ⟨V.non, H2, J7.os, J7.bare, J7.base, J7.hok, rfl, q7⟩
  | .brk, ⟨_, _, _, q7⟩ => exact q7.elim
  | .cont, ⟨_, _, _, q7⟩ => exact q7.elim
end
end Cr
/-! errors with one value that is copied -/
namespace Cr
open PySem PySem.Spec PyProof.Rows L2 Evl
/-- its __init__: a copy of the value in the field f -/
def spInitC (C : Addr) (f : Str) (n : Nat) : Sp := fun vs H Q _ => ∃ (a : Addr) (v : V) (d : PyData), vs = [.ref a, v] ∧ Dt H v d ∧ cpy d = true ∧ dpt d < n ∧ H a = some (exo a C none) ∧
  ∀ v' H' dx, Ex H H' → Dt (dif H H') v' d → H' dx = none → dx ≠ a → Q .non (upd (upd H' dx (exd dx [(f, v')])) a (exo a C (some dx)))
abbrev sIUnknownModule : Stmt := inClass (topS 5) 0
theorem scIUnknownModule : SupScope ["self", "value"] ["self", "value"] (defScope sIUnknownModule) := ⟨rfl, rfl, rfl, by decide +kernel, rfl, by decide +kernel, by decide +kernel, by decide +kernel, by decide +kernel, by decide +kernel⟩
section
variable {P : Program} {w : World} {K : PySem.W.Frag} {mg : Str → Option Value} {base : Heap}
theorem ok_iUnknownModule {C fI : Addr} {fd : FuncData} {b : XB} {k : Nat} (T : ErrAt P K mg C fI fd b "UnknownModule" "UnknownModule.__init__" "value" sIUnknownModule) (B : Blt mg) (h1 : HasO P w K mg base k "copied" ["value"] (spCopied k)) : FnOk P w K mg base CX0 (k + 1) fI fd ["self", "value"] (spInitC C "value" k) := by
  obtain ⟨f1, d1, G1, b1, k1, g1⟩ := h1.ex
  obtain ⟨cda, cc, oc, od, an, kV, doc, pm, ct, osl, rfl, lk, hcd, S⟩ := T.ex
  refine okSupGR lk hcd scIUnknownModule S B.sup rfl rfl (by decide) (fun vs H Q E h => by obtain ⟨_, _, _, rfl, _⟩ := h; rfl) (fun A outer s H vs Q E hr h => ?_)
  obtain ⟨a, v, d, rfl, hd, hc, hn, ha, q⟩ := h
  refine ⟨a, _, _, rfl, ha, pa_cons pe_str pa_nil, pss_one (ps_ostG (pv 0) (pe_call (E := E0) G1 hr (by rfl) g1 k1 b1 .nil pass0 (pa_cons (pv 1) pa_nil))), ?_⟩
  refine ⟨by show 1 ≤ 1000; decide, ha, v, rfl, ?_⟩
  cases k with
  | zero => omega
  | succ n => exact ⟨v, d, rfl, hd, hc, by omega, fun v' H' e' hv' => ⟨.ref a, rfl, a, C, b, rfl, S.oex, T.no, .inl ⟨e' _ _ ha, fun dx hdx ne => q v' H' dx e' hv' hdx ne⟩⟩⟩
end
end Cr
/-! errors with two values -/
namespace Cr
open PySem PySem.Spec PyProof.Rows L2 Evl
/-- the heap behind two fields -/
def two2 (H : Hp) (a C dx : Addr) (f g : Str) (v u : V) : Hp := upd (upd (upd H dx (exd dx [(f, v)])) a (exo a C (some dx))) dx (exd dx [(g, u), (f, v)])
/-- the first is copied, the second a number -/
def spInit2C (C : Addr) (f g : Str) (n : Nat) : Sp := fun vs H Q _ => ∃ (a : Addr) (v : V) (d : PyData) (i : Int), vs = [.ref a, v, .int i] ∧ i.natAbs.log2 < 1000 ∧ Dt H v d ∧ cpy d = true ∧ dpt d < n ∧ H a = some (exo a C none) ∧
  ∀ v' H' dx, Ex H H' → Dt (dif H H') v' d → H' dx = none → dx ≠ a → Q .non (two2 H' a C dx f g v' (.int i))
abbrev sIInvalidLibrary : Stmt := inClass (topS 4) 0
theorem scIInvalidLibrary : SupScope ["self", "module", "position"] ["self", "module", "position"] (defScope sIInvalidLibrary) := ⟨rfl, rfl, rfl, by decide +kernel, rfl, by decide +kernel, by decide +kernel, by decide +kernel, by decide +kernel, by decide +kernel⟩
section
variable {P : Program} {w : World} {K : PySem.W.Frag} {mg : Str → Option Value} {base : Heap}
theorem ok_iInvalidLibrary {C fI : Addr} {fd : FuncData} {b : XB} {k : Nat} (T : ErrAt P K mg C fI fd b "InvalidLibrary" "InvalidLibrary.__init__" "module" sIInvalidLibrary) (n2 : PySem.W.findIn K (.ref C) "position" = some none) (B : Blt mg) (h1 : HasO P w K mg base k "copied" ["value"] (spCopied k)) : FnOk P w K mg base CX0 (k + 1) fI fd ["self", "module", "position"] (spInit2C C "module" "position" k) := by
  obtain ⟨f1, d1, G1, b1, k1, g1⟩ := h1.ex
  obtain ⟨cda, cc, oc, od, an, kV, doc, pm, ct, osl, rfl, lk, hcd, S⟩ := T.ex
  refine okSupGR lk hcd scIInvalidLibrary S B.sup rfl rfl (by decide) (fun vs H Q E h => by obtain ⟨_, _, _, _, rfl, _⟩ := h; rfl) (fun A outer s H vs Q E hr h => ?_)
  obtain ⟨a, v, d, i, rfl, hi, hd, hc, hn, ha, q⟩ := h
  refine ⟨a, _, _, rfl, ha, pa_cons (pe_joined (.cons pe_str (.cons (pe_fmt (pv 2)) (.cons pe_str .nil)))) pa_nil, pss_cons (ps_ostG (pv 0) (pe_call (E := E0) G1 hr (by rfl) g1 k1 b1 .nil pass0 (pa_cons (pv 1) pa_nil))) (pss_one (ps_ostG (pv 0) (pv 2))), ?_⟩
  have l0 : (Str.empty ++ ("not a library, position " : Str)).length ≤ 100 := by decide +kernel
  have l2 : ((" of a module" : Str)).length ≤ 100 := by decide +kernel
  have l1 := int_text hi
  refine ⟨_, rfl, Nat.le_trans l0 (by rw [sizeLine_eq]; decide), .int i, rfl, .inr ⟨i, rfl, by omega, _, rfl, by rw [len_add, sizeLine_eq]; omega, _, rfl, by rw [len_add, len_add, sizeLine_eq]; omega, ?_⟩⟩
  refine ⟨by show 1 ≤ 1000; decide, ha, v, rfl, ?_⟩
  cases k with
  | zero => omega
  | succ n => exact ⟨v, d, rfl, hd, hc, by omega, fun v' H' e' hv' => ⟨.ref a, rfl, a, C, b, rfl, S.oex, T.no, .inl ⟨e' _ _ ha, fun dx hdx ne => ⟨.int i, rfl, .ref a, rfl, a, C, b, rfl, S.oex, n2, .inr ⟨dx, _, upd_same, by rw [upd_ne ne, upd_same], by show 1 ≤ 900; decide, q v' H' dx e' hv' hdx ne⟩⟩⟩⟩⟩
end
end Cr
/-! errors whose second value is copied -/
/-! own errors as they are made and raised, by the data of their fields -/
namespace Cr
open PySem PySem.Spec PyProof.Rows L2 Evl
def cpyTo (n : Nat) (d : PyData) : Prop := cpy d = true ∧ dpt d < n
def MkErr (P : Program) (w : World) (K : PySem.W.Frag) (mg : Str → Option Value) (base : Heap) (k : Nat) (C : Addr) (cn : Str) (m : Nat) (sp : Sp) : Prop :=
  ∃ (fI : Addr) (fd : FuncData) (b : XB) (ps : List Str), ps.length = m + 1 ∧ OexG K C b ∧ FnOk P w K mg base CX0 k fI fd ps sp ∧ Binds K fd ps [] ∧ PySem.W.findIn K (.ref C) "__init__" = some (some (.ref fI)) ∧ PySem.W.typeIn K (.ref fI) = some (.type "function") ∧ mg cn = some (.ref C)
theorem mkErr_of {P : Program} {w : World} {K : PySem.W.Frag} {mg : Str → Option Value} {base : Heap} {k m : Nat} {C fI : Addr} {fd : FuncData} {b : XB} {cn qual fld : Str} {st : Stmt} {ps : List Str} {sp : Sp} (T : ErrAt P K mg C fI fd b cn qual fld st) (hm : ps.length = m + 1) (G : FnOk P w K mg base CX0 k fI fd ps sp)
    (hb : ∀ (kV doc pm ct : Value) (an : Option Addr) (cda cc : Addr) (us : List Value), us.length = ps.length → bindArgs (PySem.W.ksFn "__init__" qual (defArgs st) (defBody st) (defScope st) .none kV doc pm an (.ref cda) ct cc) ⟨us, []⟩ = pure (ps.zip us)) : MkErr P w K mg base k C cn m sp := by
  obtain ⟨cda, cc, oc, od, an, kV, doc, pm, ct, osl, rfl, lk, hcd, S⟩ := T.ex
  exact ⟨fI, _, b, ps, hm, S.oex, G, .all fun us hl => hb kV doc pm ct an cda cc us hl, T.init, T.fn, T.at_⟩
/-- raised with the datum d in the field f -/
structure Rsd1 (H H' : Hp) (dx : Addr) (f : Str) (d : PyData) : Prop where
  new : H dx = none
  ex : Ex H H'
  at_ : ∃ v, H' dx = some (.xd [(f, v)]) ∧ Dt H' v d
/-- .. with two -/
structure Rsd2 (H H' : Hp) (dx : Addr) (f g : Str) (d e : PyData) : Prop where
  new : H dx = none
  ex : Ex H H'
  at_ : ∃ v u, H' dx = some (.xd [(g, u), (f, v)]) ∧ Dt H' v d ∧ Dt H' u e
theorem Rsd1.back {H0 H H' : Hp} {dx : Addr} {f : Str} {d : PyData} (r : Rsd1 H H' dx f d) (e : Ex H0 H) : Rsd1 H0 H' dx f d := ⟨fresh_back e r.new, e.trans r.ex, r.at_⟩
theorem Rsd2.back {H0 H H' : Hp} {dx : Addr} {f g : Str} {d e' : PyData} (r : Rsd2 H H' dx f g d e') (e : Ex H0 H) : Rsd2 H0 H' dx f g d e' := ⟨fresh_back e r.new, e.trans r.ex, r.at_⟩
section
variable {C : Addr} {f g : Str} {n : Nat} {ta : TA} {σ : L2.St} {H : Hp} {Q : XK}
theorem mk_cpy (h : ta σ H fun vs H1 => ∃ v d, vs = [v] ∧ Dt H1 v d ∧ cpyTo n d ∧ ∀ dx H', Rsd1 H1 H' dx f d → Q (.ref C) (some dx) H')
    (mono : ∀ {σ : L2.St} {H : Hp} {R S : List V → Hp → Prop}, (∀ vs H1, R vs H1 → S vs H1) → ta σ H R → ta σ H S) : tMkO C (spInitC C f n) [] ta σ H Q := by
  refine mono (fun vs H1 hh => ?_) h
  obtain ⟨v, d, rfl, hd, ⟨c1, c2⟩, q⟩ := hh
  refine ⟨by show 1 ≤ 1000; decide, fun a ha => ⟨a, v, d, rfl, Dt.ex (Ex.new ha) hd, c1, c2, upd_same, fun v' H' dx e1 hv hx ne => ⟨rfl, dx, [(f, v')], upd_same, ?_, ?_, ?_⟩⟩⟩
  · rw [upd_ne ne, upd_same]
  · cases z : H1 dx with
    | none => rfl
    | some o => rw [e1 dx o (by rw [upd_ne ne]; exact z)] at hx; cases hx
  · have z1 : H1 dx = none := by
      cases z : H1 dx with
      | none => rfl
      | some o => rw [e1 dx o (by rw [upd_ne ne]; exact z)] at hx; cases hx
    refine q dx _ ⟨z1, fun b o hb => ?_, v', upd_same, Dt.ex (fun b o hb => ?_) hv⟩
    · have na : b ≠ a := ne_of_none hb ha
      have nx : b ≠ dx := ne_of_none hb z1
      rw [upd_ne nx, del_ne na, upd_ne na, upd_ne nx]
      exact e1 b o (by rw [upd_ne na]; exact hb)
    · obtain ⟨zb, h1⟩ := dif_get hb
      have na : b ≠ a := fun q => by rw [q, upd_same] at zb; cases zb
      have nx : b ≠ dx := ne_of_none h1 hx
      rw [upd_ne nx, del_ne na, upd_ne na, upd_ne nx]
      exact h1
end
end Cr
/-! own errors made and raised while another exception is handled: super().__init__(..) first -/
namespace Cr
open PySem PySem.Spec PyProof.Rows L2 Evl
/-- the body's context there -/
def cxSupH (P : Program) (w : World) (K : PySem.W.Frag) (mg : Str → Option Value) (base : Heap) (N : List Str) (qual : Str) (scope : Scope) (f cda cc : Addr) (A : Around) (outer : List Env) (s : Shared) (H : Hp) (p : Addr × Obj) : Cx :=
  { cxSup P w K mg base N qual scope f cda cc A outer s H with calm := false, pn := [p] }
theorem cxSupH_hot {P : Program} {w : World} {K : PySem.W.Frag} {mg : Str → Option Value} {base : Heap} {N : List Str} {qual : Str} {scope : Scope} {f cda cc : Addr} {A : Around} {outer : List Env} {s : Shared} {H : Hp} {p : Addr × Obj} (h : L2H.Hot1 A p) : L2H.HotC (cxSupH P w K mg base N qual scope f cda cc A outer s H p) :=
  ⟨p, ⟨h.1, h.2⟩, List.mem_cons_self⟩
section
variable {P : Program} {w : World} {K : PySem.W.Frag} {mg : Str → Option Value} {base : Heap}
theorem inv_supH {N ps : List Str} {qual : Str} {scope : Scope} {f cda cc : Addr} {cl : Value} {cld : Option Addr} {cv : Option Value} {csl : Array (Option Value)} {A : Around} {outer : List Env} {s : Shared} {h₁ : Heap} {tk : Nat} {H : Hp} {us : List Value} {vs : List V}
    (S : SupScope N ps scope) {p : Addr × Obj} (hpin : L2H.PinOk outer H s p) (e0 : Env0 P w K mg base A outer s H) (hl : vs.length = ps.length) (r : Vals vs us) (hcell : K.lookup cc = some ⟨cl, cld, .cell cv, csl⟩)
    (hns : h₁.Ns s.heap.objs.size (fun x => (ps.zip us).reverse.lookup x)) (hk : ∀ b o, s.heap.get? b = some o → h₁.get? b = some o) :
    Inv (cxSupH P w K mg base N qual scope f cda cc A outer s H p) [] (L2.start N vs) H { s with heap := h₁, toks := tk } := by
  have hpl : ps.length ≤ N.length := by have := congrArg List.length S.pre; rw [List.length_take] at this; omega
  have noA : ∀ b : Addr, b ∉ (cxSupH P w K mg base N qual scope f cda cc A outer s H p).ex := fun b z => absurd (show b ∈ ([] : List Addr) from z) (by simp)
  have one : ∀ {y : Str} {c : Addr}, ([("__class__", cc)] : List (Str × Addr)).lookup y = some c → y = "__class__" ∧ c = cc := fun {y c} h => by
    by_cases z : y = "__class__"
    · subst z
      simp [List.lookup] at h
      exact ⟨rfl, h.symm⟩
    · have e : (y == ("__class__" : Str)) = false := beq_eq_false_iff_ne.mpr z
      simp [List.lookup, e] at h
  have hb := e0.mod.kin _ _ hcell
  have hc1 := e0.bs _ _ hb
  refine ⟨⟨e0.mod, S.kind, rfl, rfl, Nat.le_refl _, fun y z c h1 h2 => (one h1).1.trans (one h2).1.symm, fun y hy => ?_, fun y c z _ => absurd (show false = true from z) (by decide), (fun z => Bool.noConfusion (show false = true from z)), Around.frames_deeper e0.frames, .inr ⟨rfl, rfl⟩, fun b z => absurd z (noA b), e0.bs, e0.bsz, fun b _ _ => noA b, fun b z => absurd z (noA b), e0.funs, e0.frf⟩,
    rfl, e0.bare, Un.kept hk, ⟨_, hns, fun i y v h1 h2 h3 => ?_⟩, fun y c h => ?_, e0.hok.fresh (Nat.le_refl _), fun y c h => ?_, fun q hq => ?_, e0.hok.kept hk, ?_⟩
  · have hy : scope.names.lookup y = some .cell ∨ scope.names.lookup y = some .free := hy
    rcases hy with hy | hy
    · exact absurd rfl (S.nocell _ (PySem.mem_of_lookup hy))
    · have e := S.free _ (PySem.mem_of_lookup hy) rfl
      have e : y = "__class__" := e
      subst e
      exact ⟨cc, by show ([(("__class__" : Str), cc)] : List (Str × Addr)).lookup ("__class__" : Str) = _; simp [List.lookup]⟩
  · have hi : i < vs.length := by
      unfold L2.start at h2
      by_cases hi : i < vs.length
      · exact hi
      · rw [List.getElem?_append_right (by simpa using hi)] at h2
        rw [List.getElem?_replicate] at h2
        split at h2 <;> cases h2
    have ha : vs[i]? = some v := by
      unfold L2.start at h2
      rw [List.getElem?_append_left (by simpa using hi), List.getElem?_map] at h2
      cases e : vs[i]? with
      | none => rw [e] at h2; cases h2
      | some a => rw [e] at h2; cases h2; rfl
    obtain ⟨u, hu, rv⟩ := r.get ha
    have hp : ps[i]? = some y := by
      rw [← S.pre, List.getElem?_take_of_lt (by omega)]; exact h1
    have ndP : ps.Nodup := by rw [← S.pre]; exact S.nd.sublist (List.take_sublist _ _)
    exact ⟨u, rv, .inl ⟨S.par y (List.mem_of_getElem? hp), zip_rev ndP hp hu (r.length.symm.trans hl)⟩⟩
  · obtain ⟨_, rfl⟩ := one h
    exact ⟨cv, _, hk _ _ hc1.1, rfl⟩
  · obtain ⟨_, rfl⟩ := one h
    exact hc1.2
  · have eq : q = p := by simpa using (show q ∈ [p] ++ ([] : List (Addr × Obj)) from hq)
    rw [eq]
    exact ⟨hk p.1 p.2 hpin.get, hpin.free, Nat.ne_of_lt (Heap.lt_size hpin.get), hpin.nofs, hpin.nocell⟩
  · unfold L2.start
    show _ = N.length
    rw [List.length_append, List.length_map, List.length_replicate]
    omega
theorem okSupGH {name qual : Str} {params : Arguments} {scope : Scope} {dV kV doc pm ct oc : Value} {an od : Option Addr} {osl : Array (Option Value)} {f C cda cc : Addr} {b : XB} {N ps : List Str} {k : Nat} {sp : Sp}
    {p0 p1 p2 p3 p4 : Pos} {e : Expr} {es : List Expr} {rest : List Stmt} {ar : Arg}
    (lk : K.lookup f = some ⟨oc, od, .func (PySem.W.ksFn name qual params (.Expr (.Call (.Attribute (.Call (.Name "super" p0) [] [] p1) "__init__" p2) (e :: es) [] p3) p4 :: rest) scope dV kV doc pm an (.ref cda) ct cc), osl⟩)
    (hcd : PySem.W.codeIn K (.ref cda) qual = true) (S : SupScope N ps scope) (T : SupG P K C cda cc b) (hsup : mg "super" = none)
    (hp0 : (params.posonlyargs ++ params.args).head? = some ar) (hself : N[0]? = some ar.arg) (hps : ar.arg ∈ ps)
    (len : ∀ vs H Q E, sp vs H Q E → vs.length = ps.length)
    (hbody : ∀ (A : Around) (outer : List Env) (s : Shared) (H : Hp) (vs : List V) (Q : VK) (E : XK) (p : Addr × Obj), L2H.Hot1 A p → L2H.RoomH k (A.deeper (PySem.W.ksEnv qual scope s.heap.objs.size f (.ref cda) cc)) → sp vs H Q E →
      ∃ (a : Addr) (ta : TA) (t : TS), (L2.start N vs)[0]? = some (some (.ref a)) ∧ H a = some (exo a C none) ∧ PA (cxSupH P w K mg base N qual scope f cda cc A outer s H p) (e :: es) ta ∧
        PSs (cxSupH P w K mg base N qual scope f cda cc A outer s H p) rest t ∧
        ta (L2.start N vs) H fun ws H1 => ws.length ≤ 1000 ∧ H1 a = some (exo a C none) ∧ t { nx := fun _ H' => Q .non H', rt := Q } (L2.start N vs) H1)
    {pl : Addr → Sem Bool}
    (hc : ∀ L : Addr, eval (.Call (.Attribute (.Call (.Name "super" p0) [] [] p1) "__init__" p2) (e :: es) [] p3) (PySem.W.ksEnv qual scope L f (.ref cda) cc) = (do
      let ov ← attributeBase (.Call (.Name "super" p0) [] [] p1) "__init__" (PySem.W.ksEnv qual scope L f (.ref cda) cc) (eval (.Call (.Name "super" p0) [] [] p1) (PySem.W.ksEnv qual scope L f (.ref cda) cc))
      standAt p2.atName
      let (fx, first) ← holding [ov] (getMethod ov "__init__" (pl L))
      callWith p3 fx first (backTo p3 (starEach (e :: es) (PySem.W.ksEnv qual scope L f (.ref cda) cc))) []) := by intro _; rfl)
    (hint : ∀ L : Addr, interactive (PySem.W.ksEnv qual scope L f (.ref cda) cc) = false := by intro _; rfl)
    (hsw : ∀ L : Addr, swapsWith (.Call (.Attribute (.Call (.Name "super" p0) [] [] p1) "__init__" p2) (e :: es) [] p3) none p4.line (PySem.W.ksEnv qual scope L f (.ref cda) cc) = pure false := by intro _; rfl)
    (he : ∀ L : Addr, starEach (e :: es) (PySem.W.ksEnv qual scope L f (.ref cda) cc) = (false, eval e (PySem.W.ksEnv qual scope L f (.ref cda) cc)) :: starEach es (PySem.W.ksEnv qual scope L f (.ref cda) cc) := by intro _; rfl)
    (hpl : ∀ L : Addr, (backTo p3 (starEach es (PySem.W.ksEnv qual scope L f (.ref cda) cc))).any (·.1) = false := by intro _; rfl) :
    L2H.FnH P w K mg base CX0 (k + 1) f (PySem.W.ksFn name qual params (.Expr (.Call (.Attribute (.Call (.Name "super" p0) [] [] p1) "__init__" p2) (e :: es) [] p3) p4 :: rest) scope dV kV doc pm an (.ref cda) ct cc) ps sp := by
  refine ⟨len, fun A outer s H args us vs Q E p hr hot hpin e0 hb r hsp => ?_⟩
  have keepB : ∀ b o, base.get? b = some o → s.heap.get? b = some o := fun b o e => (e0.bs b o e).1
  obtain ⟨cl, cld, csl, hcell⟩ := T.cell
  obtain ⟨ccl, cdd, cvs, ccs, file, tf, hcode, hvs, hfile⟩ := T.code
  refine ks_codeAny_call_defAt (fd := PySem.W.ksFn name qual params _ scope dV kV doc pm an (.ref cda) ct cc) (binds := ps.zip us) hr.depth ((e0.mod.kin.keeps keepB) _ _ lk) rfl (e0.mod.nolimit.keeps keepB) (PySem.W.codeRec_of (e0.mod.kin.keeps keepB) hcd) rfl hb S.nocell
    (fun x hx => S.par x.1 (List.of_mem_zip (show (x.1, x.2) ∈ ps.zip us from hx)).1) (fun h₁ hns hk => ?_) S.co S.gen S.kind
  obtain ⟨a, ta, t, hs0, hea, hta, ht, hT⟩ := hbody A outer s H vs Q E p hot (hr.deeper _) hsp
  have I : Inv (cxSupH P w K mg base N qual scope f cda cc A outer s H p) [] (L2.start N vs) H { s with heap := h₁, toks := s.toks + (ps.zip us).length } := inv_supH S hpin e0 (len _ _ _ _ hsp) r hcell hns hk
  have kIn := I.kIn
  obtain ⟨m, hn, hlk⟩ := I.loc
  obtain ⟨u0, hu0, hl0⟩ := hlk 0 ar.arg (.ref a) hself hs0 (.inl (S.par _ hps))
  obtain rfl : u0 = Value.ref a := hu0
  have hma : m ar.arg = some (.ref a) := by
    rcases hl0 with ⟨_, z⟩ | ⟨z, _⟩
    · exact z
    · have k1 : scope.names.lookup ar.arg = some .local := S.par _ hps
      rcases z with z | z
      · have z' : scope.names.lookup ar.arg = some .cell := z
        rw [k1] at z'; cases z'
      · have z' : scope.names.lookup ar.arg = some .free := z
        rw [k1] at z'; cases z'
  obtain ⟨t1, ho⟩ := exo_at I.hok hea
  obtain ⟨nm, q, N', bs, bm, sn, sub, ab, col, dd, k0, k1, k2, k3, k5, hC, hbm⟩ := T.oex.cls
  have hcl : PySem.W.clsIn K C = some { name := nm, bases := bs, mro := .ref C :: bm, ns := N', qualname := q, hasDict := true, slotNames := sn, subclasses := sub, abstract := ab, collection := col, hasDel := false } := by unfold PySem.W.clsIn; rw [hC] <;> rfl
  obtain ⟨mb, hmb, hbb⟩ := I.mod.blt
  have J : PySem.W.InstAt h₁ a { cls := .ref C, dict := none, data := .fields #[.ref t1, .none, .none, .none, .bool false, .none] } C none := ⟨ho, rfl, rfl, trivial⟩
  have hne : a ≠ C := PySem.W.ks_ne kIn J hcl
  show PySem.wpAt (model P w) (A.deeper (PySem.W.ksEnv qual scope s.heap.objs.size f (.ref cda) cc)) (.func _ (PySem.W.ksEnv qual scope s.heap.objs.size f (.ref cda) cc)) (execs _ (PySem.W.ksEnv qual scope s.heap.objs.size f (.ref cda) cc)) _ _ _
  refine ks_wpAt_execs_cons (ks_wpAt_Expr_any (ks_wpAt_MethodCall (pl := pl s.heap.objs.size) (ks_wpAt_super_base (f := f) S.sup S.cls (by decide) rfl (kIn _ _ lk) rfl hp0 rfl (kIn _ _ hcode) rfl hvs hfile T.top ?_) (hc _)) (hint _) (hsw _))
  refine PySem.W.ks_loadName_global S.kind S.sup (PySem.Calls.loadGlobal_builtin (mg := mg) (mb := mb) (I.mod.glob.keeps I.bk) hsup (hmb.keeps I.bk) ((hbb _ (by decide +kernel)).trans (by first | boot_by_name | rfl | kernel_rfl)) ⟨rfl, ?_⟩)
  refine wpAny_loadName_free S.kind S.cls rfl ⟨_, kIn _ _ hcell, rfl⟩ ?_
  refine wpAny_loadName_local S.kind (S.par _ hps) hn hma ?_
  refine ks_wpAny_isType_cls (kIn _ _ hC) rfl ⟨rfl, ?_⟩
  refine ks_wpAny_call_super (kIn _ _ hC) rfl ho rfl (fun c z => by cases z) (PySem.W.looks_mroIn kIn T.self) (fun h2 e2 kk2 => ?_)
  have I2 : Inv (cxSupH P w K mg base N qual scope f cda cc A outer s H p) [] (L2.start N vs) H { s with heap := h2, toks := s.toks + (ps.zip us).length } := I.kept (t' := s.toks + (ps.zip us).length) kk2
  have hm2 := T.up
  unfold PySem.W.ks_superIn at hm2
  rw [hcl] at hm2
  have J2 : PySem.W.InstAt h2 a { cls := .ref C, dict := none, data := .fields #[.ref t1, .none, .none, .none, .bool false, .none] } C none := ⟨kk2 _ _ ho, rfl, rfl, trivial⟩
  refine PySem.W.kxs_getMethod T.oex.ok.sup e2 (PySem.W.looks_opaque I2.kIn T.opq) (l₀ := .ref C :: bm) (fun A Q E s k q => wpAny_bind ((PySem.W.looks_clsIn I2.kIn hcl) A _ E s k (wpAny_pure q))) rfl I2.kIn hm2
    (J2.type.andThen (PySem.W.looks_subIn I2.kIn T.sub)) hne (by decide) ?_
  have kk3 : ∀ b' o, h2.get? b' = some o → (h2.push (PySem.W.kxs_mw b.ini a)).get? b' = some o := fun b' o z => Heap.get?_push_of_some _ z
  have I3 : Inv (cxSupH P w K mg base N qual scope f cda cc A outer s H p) [] (L2.start N vs) H { s with heap := h2.push (PySem.W.kxs_mw b.ini a), toks := s.toks + (ps.zip us).length + 1 } := I2.kept (t' := s.toks + (ps.zip us).length + 1) kk3
  have I4 : Inv (cxSupH P w K mg base N qual scope f cda cc A outer s H p) [(h2.objs.size, PySem.W.kxs_mw b.ini a)] (L2.start N vs) H { s with heap := h2.push (PySem.W.kxs_mw b.ini a), toks := s.toks + (ps.zip us).length + 1 } :=
    ⟨I3.ok, I3.os, I3.bare, I3.base, I3.loc, I3.cell, I3.free, I3.freeC, fun q hq => by
      rcases List.mem_append.mp hq with hq | hq
      · exact I3.pin q (List.mem_append_left _ hq)
      · have hp' : q = (h2.objs.size, PySem.W.kxs_mw b.ini a) := List.mem_singleton.mp hq
        subst hp'
        exact ⟨Heap.get?_push_at rfl rfl, I2.hok.fresh (Nat.le_refl _), Nat.ne_of_gt I2.lt, I2.nofs (Nat.le_refl _), fun v z => by cases z⟩, I3.hok, I3.len⟩
  have hev := he s.heap.objs.size
  have hpv := hpl s.heap.objs.size
  show wpAny (model P w) _ (callWith p3 (.ref h2.objs.size) [] (backTo p3 (starEach (e :: es) (PySem.W.ksEnv qual scope s.heap.objs.size f (.ref cda) cc))) []) _ _ _
  have ru := hta.run p3 _ _ _ _ _ I4 hT
  have ru' : wpAny (model P w) (A.deeper (PySem.W.ksEnv qual scope s.heap.objs.size f (.ref cda) cc)) (spliced (backTo p3 (starEach (e :: es) (PySem.W.ksEnv qual scope s.heap.objs.size f (.ref cda) cc)))) _ (fun _ _ => False) _ := ru
  rw [hev] at ru' ⊢
  refine PySem.W.kxs_callWith (i := b.ini) (x := a) (by show (false || (backTo p3 (starEach es _)).any (·.1)) = false; rw [hpv]; rfl) (PySem.Calls.evalArgs_plain ?_)
  refine wpAny_mono ru' (fun ws s5 h5 => ?_) fun _ _ z => z.elim
  obtain ⟨vs5, H5, I5, r5, hl5, he5, hT5⟩ := h5
  have hu5 := (I5.pin _ (List.mem_append_right _ List.mem_cons_self)).1
  refine ⟨hu5, ?_⟩
  refine boundG T.oex I5 he5 hu5 (by show ws.length ≤ sizeLine; rw [← Paired.length r5, sizeLine_eq]; omega) fun s6 I6 => ?_
  have go := ht.run _ _ _ _ _ I6 hT5
  refine wpAt_of_wpAny ?_
  refine wpAny_mono go (fun fl s7 h7 => ?_) fun _ _ z => z.elim
  match fl, h7 with
  | .ret u, ⟨v, σ2, H2, J7, rv, q7⟩ => exact ⟨v, H2, J7.os, J7.bare, J7.base, J7.hok, rv, q7⟩
  | .next, ⟨σ2, H2, J7, q7⟩ => exact ⟨V.non, H2, J7.os, J7.bare, J7.base, J7.hok, rfl, q7⟩
  | .brk, ⟨_, _, _, q7⟩ => exact q7.elim
  | .cont, ⟨_, _, _, q7⟩ => exact q7.elim
end
section
variable {X : Cx} {o e : Expr} {es : List Expr} {to te : TE} {ta : TA} {f : Str} {p p' pos : Pos}
/-- C(e, ..) by its own __init__, to be raised while another one is handled -/
theorem pmk5GH {CX : CXT} {x : Str} {C fI : Addr} {b : XB} {k : Nat} {fd : FuncData} {ps : List Str} {sp : Sp} {ds : List Value} {dvs : List V} (T : OexG X.K C b) (iC : PySem.W.findIn X.K (.ref C) "__init__" = some (some (.ref fI))) (tI : PySem.W.typeIn X.K (.ref fI) = some (.type "function"))
    (F1 : L2H.FnH X.prog X.w X.K X.mg X.base CX k fI fd ps sp) (hr : L2H.RoomH (k + 1) X.A) (hot : L2H.HotC X) (hb : Binds X.K fd ps ds) (hd : Vals dvs ds) (hx : Passes CX X (fun _ _ _ => False)) (hg : Gl X x) (hm : X.mg x = some (.ref C)) (ha : PA X (e :: es) ta)
    (hdb : (x == ("__debug__" : Str)) = false := by decide) (he : starEach (e :: es) X.env = (false, eval e X.env) :: starEach es X.env := by rfl) (hpl : (backTo pos (starEach es X.env)).any (·.1) = false := by rfl) :
    L2H.PMk5 X (.Call (.Name x p) (e :: es) [] pos) (tMkO C sp dvs ta) := by
  intro pins s σ H Q I h
  obtain ⟨pn, hot, hpn⟩ := hot
  obtain ⟨nm, q, N, bs, bm, sn, sub, ab, col, dd, k0, k1, k2, k3, k5, hC, hbm⟩ := T.cls
  refine wpAny_Call_Name_kw (ld_glob I hg hm ?_ hdb)
  refine PySem.W.callWith_K (h₀ := X.base) I.ok.mod.kin T.kC (thn (ha.run pos pins s σ H _ I h) ?_) he hpl
  rintro us ⟨hp, g, dr, tk, os⟩ ⟨vs, H1, I1, r1, hz, q1⟩
  refine ⟨I1.kIn, ?_⟩
  show wpAny _ _ (call (.ref C) us) _ _ _
  have up : hp.objs.size ≤ hp.objs.size + 1 := Nat.le_succ _
  have go := q1 (hp.objs.size + 1) (I1.hok.fresh up)
  generalize eH : (hp.push (PySem.W.kdv_tup us)).push (PySem.HandSPX.excO C hp.objs.size) = hh
  have kk : ∀ c o, hp.get? c = some o → hh.get? c = some o := fun c o z => by rw [← eH]; exact Heap.get?_push_of_some _ (Heap.get?_push_of_some _ z)
  have here : hh.get? (hp.objs.size + 1) = some (PySem.HandSPX.excO C hp.objs.size) := by rw [← eH]; heap_get
  have I2 : Inv X pins σ (upd H1 (hp.objs.size + 1) (exo (hp.objs.size + 1) C none)) ⟨hh, g, dr, tk, os⟩ := I1.laid (t' := tk) kk up (exo_ok here)
  have rel : Vals (V.ref (hp.objs.size + 1) :: (vs ++ dvs)) (Value.ref (hp.objs.size + 1) :: (us ++ ds)) := .cons rfl (r1.append hd)
  have size : (Value.ref (hp.objs.size + 1) :: us ++ ds).length = ps.length := rel.length.symm.trans (F1.len _ _ _ _ go)
  have few : us.length ≤ sizeLine := by
    rw [← Paired.length r1, sizeLine_eq]
    omega
  have P1 := I2.pin pn (List.mem_append_left _ hpn)
  have hpin : L2H.PinOk X.stack (upd H1 (hp.objs.size + 1) (exo (hp.objs.size + 1) C none)) ⟨hh, g, dr, tk, os⟩ pn :=
    ⟨P1.1, P1.2.1, fun hmm => (List.mem_cons.mp (I2.stkSub pn.1 hmm)).elim P1.2.2.1 P1.2.2.2.1, P1.2.2.2.2⟩
  obtain ⟨Bn, inN, tlN, FN, TN⟩ := T.ok.tail (C := C) hbm
  refine wpAny_call (call2 FN TN (I1.kIn _ _ hC) (PySem.W.looks_findIn I1.kIn iC) (fun self => PySem.W.bind_fn I1.kIn self tI) few ?_)
  rw [eH]
  refine codeAny_mono (F1.run _ X.stack _ _ ⟨Value.ref (hp.objs.size + 1) :: us, []⟩ (Value.ref (hp.objs.size + 1) :: (us ++ ds)) _ _ (fun _ _ _ => False) pn (hr.make C us []) ⟨hot.1, hot.2⟩ hpin (I2.env0.make C us []) (hb _ (Value.ref (hp.objs.size + 1) :: us) I2.kIn size) rel go) ?_
  intro r s' z
  match r, z with
  | .error er, z => exact hx pins σ _ _ er s' I2 z
  | .ok .next, z => exact False.elim z
  | .ok .brk, z => exact False.elim z
  | .ok .cont, z => exact False.elim z
  | .ok (.ret u), ⟨v, H2, os2, bare2, un2, hok2, rv, ev, d, fs, ea, ed, hd1, q2⟩ =>
    subst ev
    obtain ⟨h2, g2, d2, t2, os'⟩ := s'
    obtain ⟨t0, G, J, kG, ge, hoe, na⟩ := mk_end0 (d2 := d2) (t2 := t2) I1 up kk un2 hok2 os2 bare2 ea ed hd1
    refine ⟨rv, ⟨hp.objs.size + 1, _, _, ⟨G, g2, d2, t2, os'⟩, _, .ref C, some d, rfl, J, kG, ge, hoe, ⟨rfl, rfl, fun vs hv => ?_⟩, rfl, rfl, na, rfl, bare2, raises_own T.exC T.tyC, q2⟩, fun a oe vs ea2 hg2 hd2 => ?_⟩
    · cases hv
      rfl
    · cases ea2
      have hg3 : h2.get? (hp.objs.size + 1) = some oe := hg2
      rw [hoe] at hg3
      cases hg3
      cases hd2
      show (4 : Nat) < 6
      decide
end
end Cr
/-! defs whose errors have no context: they may be caught by a suite that raises -/
namespace Cr
open PySem PySem.Spec PyProof.Rows L2 Evl
section
variable {P : Program} {w : World} {K : PySem.W.Frag} {mg : Str → Option Value} {base : Heap}
/-- a def whose errors have no context, by its body -/
theorem okXN {x qual : Str} {st : Stmt} {f : Addr} {fd : FuncData} {N ps : List Str} {k : Nat} {sp : Sp} (F : Fun K x qual st f fd) (S : FnScope N ps (defScope st)) (len : ∀ vs H Q E, sp vs H Q E → vs.length = ps.length)
    (hbody : ∀ (cdv : Value) (A : Around) (outer : List Env) (s : Shared) (H : Hp) (vs : List V) (Q : VK) (E : XK), Room k (A.deeper (envOfC qual (defScope st) s.heap.objs.size f cdv)) → sp vs H Q E →
      ∃ t, PSs (cxOf (L2N.CX P w) P w K mg base N qual (defScope st) f cdv A outer s H E) (defBody st) t ∧ t { nx := fun _ H' => Q .non H', rt := Q } (L2.start N vs) H) : FnOk P w K mg base (L2N.CX P w) (k + 1) f fd ps sp := by
  obtain ⟨oc, od, kV, doc, pm, an, cdv, ct, osl, rfl, lk, hcd⟩ := F.ex
  exact fn_of lk hcd S len fun A outer s H vs Q E hr hsp => hbody cdv A outer s H vs Q E hr hsp
end
section
variable {X : Cx} {e : Expr} {es : List Expr} {ta : TA} {p pos : Pos}
/-- C(e, ..) by its own __init__, where nothing is handled: its context is None -/
theorem pmkGN {CX : CXT} {x : Str} {C fI : Addr} {b : XB} {k : Nat} {fd : FuncData} {ps : List Str} {sp : Sp} {ds : List Value} {dvs : List V} (T : OexG X.K C b) (iC : PySem.W.findIn X.K (.ref C) "__init__" = some (some (.ref fI))) (tI : PySem.W.typeIn X.K (.ref fI) = some (.type "function"))
    (F1 : FnOk X.prog X.w X.K X.mg X.base CX k fI fd ps sp) (hr : Room (k + 1) X.A) (hb : Binds X.K fd ps ds) (hd : Vals dvs ds) (hx : Passes CX X (fun _ _ _ => False)) (hg : Gl X x) (hm : X.mg x = some (.ref C)) (ha : PA X (e :: es) ta)
    (hdb : (x == ("__debug__" : Str)) = false := by decide) (he : starEach (e :: es) X.env = (false, eval e X.env) :: starEach es X.env := by rfl) (hpl : (backTo pos (starEach es X.env)).any (·.1) = false := by rfl) :
    L2N.PMk X (.Call (.Name x p) (e :: es) [] pos) (tMkO C sp dvs ta) := by
  intro pins s σ H Q I h
  obtain ⟨nm, q, N, bs, bm, sn, sub, ab, col, dd, k0, k1, k2, k3, k5, hC, hbm⟩ := T.cls
  refine wpAny_Call_Name_kw (ld_glob I hg hm ?_ hdb)
  refine PySem.W.callWith_K (h₀ := X.base) I.ok.mod.kin T.kC (thn (ha.run pos pins s σ H _ I h) ?_) he hpl
  rintro us ⟨hp, g, dr, tk, os⟩ ⟨vs, H1, I1, r1, hz, q1⟩
  refine ⟨I1.kIn, ?_⟩
  show wpAny _ _ (call (.ref C) us) _ _ _
  have up : hp.objs.size ≤ hp.objs.size + 1 := Nat.le_succ _
  have go := q1 (hp.objs.size + 1) (I1.hok.fresh up)
  generalize eH : (hp.push (PySem.W.kdv_tup us)).push (PySem.HandSPX.excO C hp.objs.size) = hh
  have kk : ∀ c o, hp.get? c = some o → hh.get? c = some o := fun c o z => by rw [← eH]; exact Heap.get?_push_of_some _ (Heap.get?_push_of_some _ z)
  have here : hh.get? (hp.objs.size + 1) = some (PySem.HandSPX.excO C hp.objs.size) := by rw [← eH]; heap_get
  have I2 : Inv X pins σ (upd H1 (hp.objs.size + 1) (exo (hp.objs.size + 1) C none)) ⟨hh, g, dr, tk, os⟩ := I1.laid (t' := tk) kk up (exo_ok here)
  have rel : Vals (V.ref (hp.objs.size + 1) :: (vs ++ dvs)) (Value.ref (hp.objs.size + 1) :: (us ++ ds)) := .cons rfl (r1.append hd)
  have size : (Value.ref (hp.objs.size + 1) :: us ++ ds).length = ps.length := rel.length.symm.trans (F1.len _ _ _ _ go)
  have few : us.length ≤ sizeLine := by
    rw [← Paired.length r1, sizeLine_eq]
    omega
  obtain ⟨Bn, inN, tlN, FN, TN⟩ := T.ok.tail (C := C) hbm
  refine wpAny_call (call2 FN TN (I1.kIn _ _ hC) (PySem.W.looks_findIn I1.kIn iC) (fun self => PySem.W.bind_fn I1.kIn self tI) few ?_)
  rw [eH]
  refine codeAny_mono (F1.run _ X.stack _ _ ⟨Value.ref (hp.objs.size + 1) :: us, []⟩ (Value.ref (hp.objs.size + 1) :: (us ++ ds)) _ _ (fun _ _ _ => False) (hr.make C us []) (I2.env0.make C us []) (hb _ (Value.ref (hp.objs.size + 1) :: us) I2.kIn size) rel go) ?_
  intro r s' z
  match r, z with
  | .error er, z => exact hx pins σ _ _ er s' I2 z
  | .ok .next, z => exact False.elim z
  | .ok .brk, z => exact False.elim z
  | .ok .cont, z => exact False.elim z
  | .ok (.ret u), ⟨v, H2, os2, bare2, un2, hok2, rv, ev, d, fs, ea, ed, hd1, q2⟩ =>
    subst ev
    obtain ⟨h2, g2, d2, t2, os'⟩ := s'
    obtain ⟨t0, G, J, kG, ge, hoe, na⟩ := mk_end0 (d2 := d2) (t2 := t2) I1 up kk un2 hok2 os2 bare2 ea ed hd1
    refine ⟨rv, ⟨hp.objs.size + 1, _, _, ⟨G, g2, d2, t2, os'⟩, _, .ref C, some d, rfl, J, kG, ge, hoe, ⟨rfl, rfl, fun vs hv => ?_⟩, rfl, rfl, na, rfl, bare2, raises_own T.exC T.tyC, q2⟩⟩
    cases hv
    rfl
end
end Cr
/-! defs whose errors have no context; errors made while another is handled -/
namespace Cr
open PySem PySem.Spec PyProof.Rows L2 Evl
/-- a def whose errors have no context -/
structure HasN (P : Program) (w : World) (K : PySem.W.Frag) (mg : Str → Option Value) (base : Heap) (k : Nat) (x : Str) (ps : List Str) (sp : Sp) : Prop where
  ex : ∃ f fd, FnOk P w K mg base (L2N.CX P w) k f fd ps sp ∧ Binds K fd ps [] ∧ PySem.W.keepIn K (.ref f) = true ∧ mg x = some (.ref f)
theorem HasN.up {P : Program} {w : World} {K : PySem.W.Frag} {mg : Str → Option Value} {base : Heap} {x : Str} {ps : List Str} {sp : Sp} {j k : Nat} (h : HasN P w K mg base j x ps sp) (le : j ≤ k) : HasN P w K mg base k x ps sp := by
  obtain ⟨f, fd, G, b, kp, g⟩ := h.ex
  exact ⟨⟨f, fd, fnUp G le, b, kp, g⟩⟩
end Cr
/-! InvalidLibrary, made where nothing is handled and while another error is handled -/
namespace Cr
open PySem PySem.Spec PyProof.Rows L2 Evl
/-- copied, of a text -/
def spCopiedS : Sp := fun vs H Q _ => ∃ x : Str, vs = [.str x] ∧ ∀ H', Ex H H' → Q (.str x) H'
/-- the __init__ of the error, its module a text -/
def spInitLS (C : Addr) : Sp := fun vs H Q _ => ∃ (a : Addr) (x : Str) (i : Int), vs = [.ref a, .str x, .int i] ∧ i.natAbs.log2 < 1000 ∧ H a = some (exo a C none) ∧
  ∀ H' dx, Ex H H' → H' dx = none → dx ≠ a → Q .non (two2 H' a C dx "module" "position" (.str x) (.int i))
/-- the error, as it is made -/
structure MkLib (P : Program) (w : World) (K : PySem.W.Frag) (mg : Str → Option Value) (base : Heap) (n : Nat) (C : Addr) : Prop where
  ex : ∃ (fI : Addr) (fd : FuncData) (b : XB), OexG K C b ∧ FnOk P w K mg base CX0 (n + 1) fI fd ["self", "module", "position"] (spInit2C C "module" "position" n) ∧ L2H.FnH P w K mg base CX0 2 fI fd ["self", "module", "position"] (spInitLS C) ∧ Binds K fd ["self", "module", "position"] [] ∧
    PySem.W.findIn K (.ref C) "__init__" = some (some (.ref fI)) ∧ PySem.W.typeIn K (.ref fI) = some (.type "function") ∧ mg "InvalidLibrary" = some (.ref C)
/-- made of a library that is none, in H1 -/
theorem rsd_two {H : Hp} {a C dx : Addr} {f g : Str} {v' : V} {d e : PyData} {u : V} {H1 H' : Hp} (hfg : True) (ha : H a = none) (e1 : Ex (upd H a (exo a C none)) H') (hv : Dt (dif (upd H a (exo a C none)) H') v' d) (he : Dt H u e) (hx : H' dx = none) (ne : dx ≠ a) :
    Rsd2 H (upd (del (two2 H' a C dx f g v' u) a) dx (.xd [(g, u), (f, v')])) dx f g d e := by
  have z1 : H dx = none := by
    cases z : H dx with
    | none => rfl
    | some o => rw [e1 dx o (by rw [upd_ne ne]; exact z)] at hx; cases hx
  have keep : ∀ b o, b ≠ a → b ≠ dx → H' b = some o → (upd (del (two2 H' a C dx f g v' u) a) dx (.xd [(g, u), (f, v')])) b = some o := fun b o na nx hb => by
    rw [upd_ne nx, del_ne na]
    unfold two2
    rw [upd_ne nx, upd_ne na, upd_ne nx]
    exact hb
  have old : Ex H (upd (del (two2 H' a C dx f g v' u) a) dx (.xd [(g, u), (f, v')])) := fun b o hb => by
    have na : b ≠ a := ne_of_none hb ha
    have nx : b ≠ dx := ne_of_none hb z1
    exact keep b o na nx (e1 b o (by rw [upd_ne na]; exact hb))
  refine ⟨z1, old, v', u, upd_same, Dt.ex (fun b o hb => ?_) hv, Dt.ex old he⟩
  obtain ⟨zb, h1⟩ := dif_get hb
  have na : b ≠ a := fun q => by rw [q, upd_same] at zb; cases zb
  have nx : b ≠ dx := ne_of_none h1 hx
  exact keep b o na nx h1
section
variable {C : Addr} {n : Nat} {ta : TA} {σ : L2.St} {H : Hp} {Q : XK}
theorem mk_lib (h : ta σ H fun vs H1 => ∃ (v : V) (d : PyData) (i : Int), vs = [v, .int i] ∧ i.natAbs.log2 < 1000 ∧ Dt H1 v d ∧ cpyTo n d ∧ ∀ dx H', Rsd2 H1 H' dx "module" "position" d (.int i) → Q (.ref C) (some dx) H')
    (mono : ∀ {σ : L2.St} {H : Hp} {R S : List V → Hp → Prop}, (∀ vs H1, R vs H1 → S vs H1) → ta σ H R → ta σ H S) : tMkO C (spInit2C C "module" "position" n) [] ta σ H Q := by
  refine mono (fun vs H1 hh => ?_) h
  obtain ⟨v, d, i, rfl, hi, hd, ⟨c1, c2⟩, q⟩ := hh
  refine ⟨by show 2 ≤ 1000; decide, fun a ha => ⟨a, v, d, i, rfl, hi, Dt.ex (Ex.new ha) hd, c1, c2, upd_same, fun v' H' dx e1 hv hx ne => ⟨rfl, dx, [("position", .int i), ("module", v')], ?_, ?_, ?_, q dx _ (rsd_two (H1 := H') trivial ha e1 hv (.int i) hx ne)⟩⟩⟩
  · unfold two2
    rw [upd_ne ne.symm, upd_same]
  · unfold two2
    rw [upd_same]
  · exact (rsd_two (f := "module") (g := "position") (H1 := H') trivial ha e1 hv (.int i) hx ne).new
theorem mk_libS (h : ta σ H fun vs H1 => ∃ (x : Str) (i : Int), vs = [.str x, .int i] ∧ i.natAbs.log2 < 1000 ∧ ∀ dx H', Rsd2 H1 H' dx "module" "position" (.str x) (.int i) → Q (.ref C) (some dx) H')
    (mono : ∀ {σ : L2.St} {H : Hp} {R S : List V → Hp → Prop}, (∀ vs H1, R vs H1 → S vs H1) → ta σ H R → ta σ H S) : tMkO C (spInitLS C) [] ta σ H Q := by
  refine mono (fun vs H1 hh => ?_) h
  obtain ⟨x, i, rfl, hi, q⟩ := hh
  refine ⟨by show 2 ≤ 1000; decide, fun a ha => ⟨a, x, i, rfl, hi, upd_same, fun H' dx e1 hx ne => ⟨rfl, dx, [("position", .int i), ("module", .str x)], ?_, ?_, ?_, q dx _ (rsd_two (H1 := H') trivial ha e1 (.str x) (.int i) hx ne)⟩⟩⟩
  · unfold two2
    rw [upd_ne ne.symm, upd_same]
  · unfold two2
    rw [upd_same]
  · exact (rsd_two (f := "module") (g := "position") (d := .str x) (e := .int i) (u := .int i) (v' := .str x) (H1 := H') trivial ha e1 (.str x) (.int i) hx ne).new
end
section
variable {P : Program} {w : World} {K : PySem.W.Frag} {mg : Str → Option Value} {base : Heap}
theorem ok_copiedH {f : Addr} {fd : FuncData} {k : Nat} (F : Fun K "copied" "copied" sCopied f fd) (B : Blt mg) : L2H.FnH P w K mg base CX0 (k + 1) f fd ["value"] spCopiedS := by
  obtain ⟨oc, od, kV, doc, pm, an, cdv, ct, osl, rfl, lk, hcd⟩ := F.ex
  refine L2H.fn_ofH lk hcd scCopied (fun vs H Q E h => by obtain ⟨_, rfl, _⟩ := h; rfl) (fun A outer s H vs Q E p hot hr h => ?_)
  obtain ⟨x, rfl, q⟩ := h
  refine ⟨_, pss_cons (ps_if (pt_val (pe_callB call_isi (by rfl) B.isi bIsi (pa_cons (pv 0) (pa_cons (pe_bltn (v := .ty "list") (by rfl) B.list bList rfl) pa_nil)))) pss_dead' pss_nil)
    (pss_cons (ps_if (pt_val (pe_callB call_isi (by rfl) B.isi bIsi (pa_cons (pv 0) (pa_cons (pe_bltn (v := .ty "tuple") (by rfl) B.tuple bTuple rfl) pa_nil)))) pss_dead' pss_nil)
    (pss_cons (ps_if (pt_val (pe_callB call_isi (by rfl) B.isi bIsi (pa_cons (pv 0) (pa_cons (pe_bltn (v := .ty "dict") (by rfl) B.dict bDict rfl) pa_nil)))) pss_dead' pss_nil)
    (pss_one (ps_ret (pv 0))))), ?_⟩
  refine q_when (b := false) (et_is (et_B (ev_cb (ea_cons (ev_var rfl) (ea_cons ev_c ea_nil)) (rc_isi (.str x) (by decide)))) rfl) (fun z => nomatch z) (fun _ H1 e1 => ?_)
  refine q_when (b := false) (et_is (et_B (ev_cb (ea_cons (ev_var rfl) (ea_cons ev_c ea_nil)) (rc_isi (.str x) (by decide)))) rfl) (fun z => nomatch z) (fun _ H2 e2 => ?_)
  refine q_when (b := false) (et_is (et_B (ev_cb (ea_cons (ev_var rfl) (ea_cons ev_c ea_nil)) (rc_isi (.str x) (by decide)))) rfl) (fun z => nomatch z) (fun _ H3 e3 => ?_)
  exact ⟨.str x, rfl, q H3 ((e1.trans e2).trans e3)⟩
theorem ok_iLibH {C fI : Addr} {fd : FuncData} {b : XB} (T : ErrAt P K mg C fI fd b "InvalidLibrary" "InvalidLibrary.__init__" "module" sIInvalidLibrary) (n2 : PySem.W.findIn K (.ref C) "position" = some none) (B : Blt mg)
    {f1 : Addr} {d1 : FuncData} (G1 : L2H.FnH P w K mg base CX0 1 f1 d1 ["value"] spCopiedS) (b1 : Binds K d1 ["value"] []) (k1 : PySem.W.keepIn K (.ref f1) = true) (g1 : mg "copied" = some (.ref f1)) : L2H.FnH P w K mg base CX0 2 fI fd ["self", "module", "position"] (spInitLS C) := by
  obtain ⟨cda, cc, oc, od, an, kV, doc, pm, ct, osl, rfl, lk, hcd, S⟩ := T.ex
  refine okSupGH (k := 1) lk hcd scIInvalidLibrary S B.sup rfl rfl (by decide) (fun vs H Q E h => by obtain ⟨_, _, _, rfl, _⟩ := h; rfl) (fun A outer s H vs Q E p hot hr h => ?_)
  obtain ⟨a, x, i, rfl, hi, ha, q⟩ := h
  refine ⟨a, _, _, rfl, ha, pa_cons (pe_joined (.cons pe_str (.cons (pe_fmt (pv 2)) (.cons pe_str .nil)))) pa_nil, pss_cons (ps_ostG (pv 0) (L2H.pe_callH (E := fun _ => E0) G1 hr (cxSupH_hot hot) (by rfl) g1 k1 b1 (fun σ pins H s e s' I h => pass0 pins σ H s e s' I h) (pa_cons (pv 1) pa_nil))) (pss_one (ps_ostG (pv 0) (pv 2))), ?_⟩
  have l0 : (Str.empty ++ ("not a library, position " : Str)).length ≤ 100 := by decide +kernel
  have l2 : ((" of a module" : Str)).length ≤ 100 := by decide +kernel
  have l1 := int_text hi
  refine ⟨_, rfl, Nat.le_trans l0 (by rw [sizeLine_eq]; decide), .int i, rfl, .inr ⟨i, rfl, by omega, _, rfl, by rw [len_add, sizeLine_eq]; omega, _, rfl, by rw [len_add, len_add, sizeLine_eq]; omega, ?_⟩⟩
  refine ⟨by show 1 ≤ 1000; decide, ha, .str x, rfl, ?_⟩
  exact ⟨x, rfl, fun H' e' => ⟨.ref a, rfl, a, C, b, rfl, S.oex, T.no, .inl ⟨e' _ _ ha, fun dx hdx ne => ⟨.int i, rfl, .ref a, rfl, a, C, b, rfl, S.oex, n2, .inr ⟨dx, _, upd_same, by rw [upd_ne ne, upd_same], by show 1 ≤ 900; decide, q H' dx e' hdx ne⟩⟩⟩⟩⟩
theorem mkLib_of {C fI : Addr} {fd : FuncData} {b : XB} {n : Nat} (T : ErrAt P K mg C fI fd b "InvalidLibrary" "InvalidLibrary.__init__" "module" sIInvalidLibrary) (n2 : PySem.W.findIn K (.ref C) "position" = some none) (B : Blt mg) (h1 : HasO P w K mg base n "copied" ["value"] (spCopied n))
    {f1 : Addr} {d1 : FuncData} (G1 : L2H.FnH P w K mg base CX0 1 f1 d1 ["value"] spCopiedS) (b1 : Binds K d1 ["value"] []) (k1 : PySem.W.keepIn K (.ref f1) = true) (g1 : mg "copied" = some (.ref f1)) : MkLib P w K mg base n C := by
  have A1 := ok_iInvalidLibrary T n2 B h1
  have A2 := ok_iLibH (P := P) (w := w) (base := base) T n2 B G1 b1 k1 g1
  obtain ⟨cda, cc, oc, od, an, kV, doc, pm, ct, osl, rfl, lk, hcd, S⟩ := T.ex
  exact ⟨⟨fI, _, b, S.oex, A1, A2, .all fun us hl => match us, hl with | [_, _, _], _ => rfl, T.init, T.fn, T.at_⟩⟩
end
end Cr
/-! check_steps: its errors have no context -/
namespace Cr
open PySem PySem.Spec PyProof.Rows L2 Evl
section
variable {P : Program} {w : World} {K : PySem.W.Frag} {mg : Str → Option Value} {base : Heap}
theorem ok_stepsN {f C : Addr} {fd : FuncData} {k : Nat} (F : Fun K "check_steps" "check_steps" sSteps f fd) (B : Blt mg) (T : MkNum P w K mg base C "InvalidProgram" "position" "position") (hk2 : 2 ≤ k) {tM : Tok} (gM : mg "MOST_STEPS" = some (.int 30 tM))
    (h1 : HasO P w K mg base k "is_step_before" ["value", "steps_after", "modules"] spBefore) : FnOk P w K mg base (L2N.CX P w) (k + 1) f fd ["value", "is_main", "modules"] (spSteps C) := by
  obtain ⟨f1, d1, G1, b1, k1, g1⟩ := h1.ex
  obtain ⟨fI, fdI, bb, Ox, FI, bI, iI, tI, gC⟩ := T.ex
  refine okXN F scSteps (fun vs H Q E h => by obtain ⟨_, _, _, _, _, rfl, _⟩ := h; rfl) (fun cdv A outer s H vs Q E hr h => ?_)
  obtain ⟨v, d, main, m, ms, rfl, hd, hs, hm, q, qe⟩ := h
  refine ⟨_, pss_cons (ps_if (PW.pt (pw_or (pt_not (pt_val (pe_callB call_isi (by rfl) B.isi bIsi (pa_cons (pv 0) (pa_cons (pe_bltn (v := .ty "list") (by rfl) B.list bList rfl) pa_nil)))))
      (pw_or1 (pt_cmpR op_gt (pe_callB call_len_seq (by rfl) B.len bLen (pa_cons (pv 0) pa_nil)) (pe_glob (v := .int 30) (by rfl) gM ⟨_, rfl⟩) (nomark _)))))
      (pss_one (L2N.ps_raise rfl (L2N.takes_of rfl rfl rfl rfl) (pmkGN Ox iI tI FI (hr.mono hk2) bI .nil pass0 (by rfl) gC (pa_cons (pe_un un_neg pe_int) pa_nil)))) pss_nil)
    (pss_one (ps_for (passes_of rfl) rfl (pi_enum (by rfl) B.enum (pa_cons (pv 0) pa_nil)) (pg_tup rfl (pgs_cons (pg_name (i := 3) scSteps.nd rfl (.inl rfl)) (pgs_cons (pg_name (i := 4) scSteps.nd rfl (.inl rfl)) pgs_nil)))
      (pss_cons (ps_if (pt_not (pt_val (pe_call G1 hr (by rfl) g1 k1 b1 .nil pass0 (pa_cons (pv 4) (pa_cons (pe_op op_sub (pe_op op_sub (pe_callB call_len_seq (by rfl) B.len bLen (pa_cons (pv 0) pa_nil)) (pv 3)) pe_int) (pa_cons (pv 2) pa_nil))))))
        (pss_one (L2N.ps_raise rfl (L2N.takes_of rfl rfl rfl rfl) (pmkGN Ox iI tI FI (hr.mono hk2) bI .nil pass0 (by rfl) gC (pa_cons (pv 3) pa_nil)))) pss_nil)
      (pss_one (ps_if (PW.pt (pw_and (pt_cmpR op_isBl (pv 1) pe_bl (nomark _)) (pw_and1 (pt_cmpR op_eq (pe_ix ix_tup (pv 4) pe_int (fun _ _ => rfl)) pe_str (nomark _)))))
        (pss_one (L2N.ps_raise rfl (L2N.takes_of rfl rfl rfl rfl) (pmkGN Ox iI tI FI (hr.mono hk2) bI .nil pass0 (by rfl) gC (pa_cons (pv 3) pa_nil)))) pss_nil))))), ?_⟩
  -- raised
  have up : ∀ {i : Int} {H1 : Hp}, dueOf ms main d = some i → Ex H H1 → ∀ dx, H1 dx = none → E (.ref C) (some dx) (upd H1 dx (.xd [("position", .int i)])) := fun hi e dx hz => qe _ hi dx _ (fresh_back e hz) (e.trans (Ex.new hz)) upd_same
  have isL := rc_isi (K := K) (T := "list") hd (by decide)
  refine q_when (b := !isT "list" d || tooLong d) (et_or (et_not (et_B (ev_cb (ea_cons (ev_var rfl) (ea_cons ev_c ea_nil)) isL))) fun hb => ?_) (fun hb H1 e1 => ?_) (fun hb H1 e1 => ?_)
  · have hL : isT "list" d = true := by rw [Bool.not_eq_false'] at hb; exact hb
    obtain ⟨a, xs, ds, rfl, rfl, hx, hds⟩ := list_form hd hL
    refine et_is (et_test (ev_op (ev_cb (ea_cons (ev_var rfl) ea_nil) (rc_lenL (sq_of hx))) ev_c rv_I0)) ?_
    show decide ((xs.length : Int) > 30) = decide (ds.length > 30)
    rw [hds.length]
    exact decide_eq_decide.mpr (by omega)
  · have hL : tooLong d = true := by
      cases d with
      | list ds =>
        have hb' : (!isT "list" (.list ds) || tooLong (.list ds)) = true := hb
        rw [show isT "list" (.list ds) = true from rfl, Bool.not_true, Bool.false_or] at hb'
        exact hb'
      | _ => rfl
    exact mk_num ⟨1, rfl, -1, rfl, by decide +kernel, fun dx hz => up (due_long hL) e1 dx hz⟩ (fun k ⟨i, e, r⟩ => ⟨i, e, k _ _ r⟩)
  · rw [Bool.or_eq_false_iff] at hb
    have hL : isT "list" d = true := by have := hb.1; rw [Bool.not_eq_false'] at this; exact this
    obtain ⟨a, xs, ds, rfl, rfl, hx, hds⟩ := list_form hd hL
    have h30 : ¬ ds.length > 30 := of_decide_eq_false hb.2
    have lx := hds.length
    have due : dueOf ms main (.list ds) = (firstBad ms main ds).map fun i => (i : Int) := if_neg h30
    refine ⟨.ref a, rfl, a, xs, rfl, sq_of (e1 _ _ hx), for_it (walk_enum (K := K) (a := a) (xs := xs)) (fun i σ H' => ∃ y2 y3, σ = [some (.ref a), some (.bl main), some m, y2, y3] ∧ Ex H1 H' ∧ ∀ j, j < i → wrongAt ms main ds j = false)
      ⟨none, none, rfl, Ex.refl _, fun j hj => absurd hj (Nat.not_lt_zero _)⟩ (fun i σ H' _ hP => ?_) (fun i x σ H' H2 hi hP hY => ?_) (fun σ H' hP => ?_)⟩
    · obtain ⟨_, _, _, e, _⟩ := hP
      exact sq_of (e _ _ (e1 _ _ hx))
    · obtain ⟨y2, y3, rfl, e2, hw⟩ := hP
      obtain ⟨T', x0, y, rfl, zT, rfl, hx0, hy⟩ := hY
      have hx0' : V.int (i : Nat) = x0 := Option.some.inj hx0
      subst hx0'
      obtain ⟨dy, hdy, hDy⟩ := DtAll.get hds hy
      have sy : sm dy = true := smAll_get (sm_all hs) hdy
      have e3 := Ex.new (o := .tup [.int (i : Nat), y]) zT
      have eH := (e1.trans e2).trans e3
      refine pair_go upd_same ?_
      have gd0 : ds.getD i .none = dy := by rw [List.getD_eq_getElem?_getD, hdy]; rfl
      have hi' : i < ds.length := by omega
      have sml : ((i : Nat) : Int).natAbs.log2 < 1000 := by
        rw [Int.natAbs_natCast]
        exact Nat.lt_of_le_of_lt (Nat.log2_le_self i) (by omega)
      refine q_when (b := !fitsIn ms dy ((ds.length : Int) - i - 1)) (et_not (et_B (ev_call (ea_cons (ev_var rfl) (ea_cons (ev_is (ev_op (ev_op (ev_cb (ea_cons (ev_var rfl) ea_nil) (rc_lenL (sq_of (eH _ _ hx)))) (ev_var rfl) rv_I0) ev_c rv_I0) (by rw [lx])) (ea_cons (ev_var rfl) ea_nil))) (spv_before (Dt.ex eH hDy) sy (hm.ex eH))))) (fun hb2 H3 e4 => ?_) (fun hb2 H3 e4 => ?_)
      · have wr : wrongAt ms main ds i = true := by
          unfold wrongAt
          rw [gd0, hb2, Bool.true_or]
        exact mk_num ⟨.int (i : Nat), rfl, (i : Nat), rfl, sml, fun dx hz => up (by rw [due, first_at hi' wr hw]; rfl) (eH.trans e4) dx hz⟩ (fun k ⟨i, e, r⟩ => ⟨i, e, k _ _ r⟩)
      · have bf : fitsIn ms dy ((ds.length : Int) - i - 1) = true := by rw [Bool.not_eq_false'] at hb2; exact hb2
        have st : isStep dy = true := (Bool.and_eq_true_iff.mp (Bool.and_eq_true_iff.mp bf).1).1
        obtain ⟨z, zs, rfl⟩ := step_form st
        have hay : ∃ b, y = .ref b := by cases hDy; exact ⟨_, rfl⟩
        obtain ⟨b, rfl⟩ := hay
        obtain ⟨ys, hys, hzs⟩ := dt_tup hDy
        cases hzs with
        | cons h0 hr0 =>
          cases h0
          have eH4 := eH.trans e4
          refine s_when (b := main && (z == "export")) (et_and (et_is (et_test (ev_op (ev_var rfl) ev_c (rv_val fun H6 _ Q q => ⟨_, _, rfl, rfl, q⟩))) (by cases main <;> rfl)) fun _ => et_is (et_test (ev_op (ev_op (ev_var rfl) ev_c (rv_ixT (st_of (eH4 _ _ hys)) (atI_nat (j := 0) rfl))) ev_c (rv_eq rfl))) ?_) (fun hb3 H4 e5 => ?_) (fun hb3 H4 e5 => ?_)
          · by_cases hz : z = "export"
            · subst hz; rw [decide_eq_true rfl]; decide
            · rw [decide_eq_false (fun e => hz (V.str.inj e)), beq_eq_false_iff_ne.mpr hz]
          · have wr : wrongAt ms main ds i = true := by
              unfold wrongAt
              rw [gd0]
              show (_ || (main && (z == "export"))) = true
              rw [hb3, Bool.or_true]
            exact mk_num ⟨.int (i : Nat), rfl, (i : Nat), rfl, sml, fun dx hz => up (by rw [due, first_at hi' wr hw]; rfl) (eH4.trans e5) dx hz⟩ (fun k ⟨i, e, r⟩ => ⟨i, e, k _ _ r⟩)
          · refine ⟨_, _, rfl, ((e2.trans e3).trans e4).trans e5, fun j hj => ?_⟩
            by_cases hji : j = i
            · subst hji
              unfold wrongAt
              rw [gd0, bf]
              show (_ || (main && (z == "export"))) = false
              rw [hb3]; rfl
            · exact hw j (by omega)
    · obtain ⟨_, _, rfl, e2, hw⟩ := hP
      exact q (by rw [due, first_none fun j hj => hw j (by omega)]; rfl) H' (e1.trans e2)
end
end Cr
/-! an except suite with a name that raises out of the try -/
namespace Cr
open PySem PySem.Spec PyProof.Rows L2 Evl
/-- the context of such a suite -/
abbrev suiteXE (X : Cx) (a : Addr) (pn : List (Addr × Obj)) (xe : Value → Shared → Prop) : Cx := { X with A := X.A.mark (some (.ref a)), calm := false, pn := pn, xe := xe }
section
variable {X : Cx} {pins : List (Addr × Obj)} {σ : L2.St} {H : Hp} {s : Shared} {xe : Value → Shared → Prop}
theorem suiteXE_of {a : Addr} {pn pn' : List (Addr × Obj)} (I : Inv (X.suite a pn) pn' σ H s) : Inv (suiteXE X a pn xe) pn' σ H s := Inv.unwish (X := suiteXE X a pn xe) (E := fun _ _ => False) I
theorem unsuiteXE {a : Addr} {q : Addr × Obj} {pn' : List (Addr × Obj)} (I : Inv (suiteXE X a (q :: (X.pn ++ pins)) xe) pn' σ H s) (ok : X.Ok) : Inv X pins σ H s :=
  Inv.unsuite (X := X) (a := a) (q := q) (pn' := pn') (show Inv (X.suite a (q :: (X.pn ++ pins))) pn' σ H s from I.wish fun _ _ => False) ok
end
section
variable {X : Cx} {x n : Str} {c : Value} {i : Nat} {body suite : List Stmt} {b₀ : Stmt} {np pos pos' : Pos} {tb : WX → TS} {ts : Addr → Value → Option Addr → TS} {Wout : WX}
/-- the suite's exception: noted, the name taken back, on it goes -/
theorem as_exc {pins : List (Addr × Obj)} {a1 : Addr} {q : Addr × Obj} {xe : Value → Shared → Prop} {u : Value} {s' : Shared} (hs : X.stack = X.env :: X.outer) (hf : X.env.frame = some X.env.locals) (hex : X.ex = []) (ok : X.Ok) (hN : X.N.Nodup) (hi : X.N[i]? = some n) (hln : X.env.kindOf n = some .local)
    (tk : L2.Takes X Wout) {N : Value → Shared → Prop} (hto : ∀ u s, X.xe u s → N u s) {A' : Around} (hfr : A'.frames = some (X.env :: X.outer))
    (xx : XE (suiteXE X a1 (q :: (X.pn ++ pins)) xe) (fun cls d σ H => Wout cls d (σ.set i none) H) u s') :
    wpAny (model X.prog X.w) A' (noteFrame u X.env) (fun _ s1 => wpAny (model X.prog X.w) A' (do bindName X.env n .none; unbindBehindTheSuite X.env n pos')
      (fun _ s4 => wpAny (model X.prog X.w) A' (passOn "try.except-as" u X.env : Sem Flow) (fun _ _ => False) N s4) (fun y s4 => wpAny (model X.prog X.w) A' (setFlight u none) (fun _ s5 => N y s5) N s4) s1) N s' := by
  obtain ⟨a, B, sI, pins', σ', H', cls, d, rfl, J', nb, up, sky, na, os, ag, hw⟩ := xx
  have J : Inv X pins σ' H' sI := unsuiteXE J' ok
  have nb : ∀ b o, sI.heap.get? b = some o → b ∉ frs X.stack → B.get? b = some o := nb
  have sky' : Sky B (X.env :: X.outer) a (Zc cls d) X.env.locals s'.heap := by rw [← hs]; exact sky
  have fin : ∀ h1, HandSPX.HeldZ B (X.env :: X.outer) a (Zc cls d) X.env.locals h1 → s'.heap.UpToSlots h1 → wpAny (model X.prog X.w) A' (do bindName X.env n .none; unbindBehindTheSuite X.env n pos')
      (fun _ s4 => wpAny (model X.prog X.w) A' (passOn "try.except-as" (.ref a) X.env : Sem Flow) (fun _ _ => False) N s4) (fun y s4 => wpAny (model X.prog X.w) A' (setFlight (.ref a) none) (fun _ s5 => N y s5) N s4) { s' with heap := h1 } := fun h1 hh1 up1 => by
    have J3 : Inv X pins σ' H' { s' with heap := h1 } := J.landed nb hh1.1 (up.trans up1) os ag
    obtain ⟨k1, k2, k3, oe, vs, T, oT, ts, he3, hz, hd, hv1, hnT, hTe, hT, hdT, ht3⟩ := id hh1
    have nT : H' T = none := (J.inGround nb).gone hnT
    have notFr : ∀ (b : Addr) (o : Obj) (fv : Array Value), h1.get? b = some o → o.data = .fields fv → b ∉ frs (X.env :: X.outer) := fun b o fv e dd hm => by
      obtain ⟨_, o', e', hnf⟩ := k3.mem hm
      have eo : o = o' := Option.some.inj (e.symm.trans e')
      rw [← eo] at hnf
      exact hnf _ dd
    have locF : X.env.locals ∈ frs (X.env :: X.outer) := List.mem_filterMap.mpr ⟨X.env, List.mem_cons_self, hf⟩
    have fsF : ∀ b, b ∈ X.fs → b ∈ frs (X.env :: X.outer) := fun b hm => by
      obtain ⟨e, he, q⟩ := List.mem_filterMap.mp hm
      exact List.mem_filterMap.mpr ⟨e, List.mem_cons_of_mem _ he, q⟩
    have fa := notFr a oe vs he3 hd
    have fT := notFr T oT ts hT hdT
    have S3 : Inv X ((a, oe) :: (T, oT) :: pins) σ' H' { s' with heap := h1 } :=
      ⟨J3.ok, J3.os, J3.bare, J3.base, J3.loc, J3.cell, J3.free, J3.freeC, fun p hp => by
        rcases List.mem_append.mp hp with hp | hp
        · exact J3.pin p (List.mem_append_left _ hp)
        rcases List.mem_cons.mp hp with z | hp
        · rw [z]
          exact ⟨he3, na, fun z2 => fa (by rw [show a = X.env.locals from z2]; exact locF), fun z2 => fa (fsF _ z2), fun v z2 => by
            have z3 : oe.data = .cell v := z2
            rw [hd] at z3
            cases z3⟩
        · rcases List.mem_cons.mp hp with z | hp
          · rw [z]
            exact ⟨hT, nT, fun z2 => fT (by rw [show T = X.env.locals from z2]; exact locF), fun z2 => fT (fsF _ z2), fun v z2 => by
              have z3 : oT.data = .cell v := z2
              rw [hdT] at z3
              cases z3⟩
          · exact J3.pin p (List.mem_append_right _ hp), J3.hok, J3.len⟩
    refine gone_ok S3 hN hi hln fun s6 S6 => ?_
    have J6 : Inv X pins (σ'.set i none) H' s6 := ⟨ok, S6.os, S6.bare, S6.base, S6.loc, S6.cell, S6.free, S6.freeC, fun p hp => S6.pin p (by
      rcases List.mem_append.mp hp with hp | hp
      · exact List.mem_append_left _ hp
      · exact List.mem_append_right _ (List.mem_cons_of_mem _ (List.mem_cons_of_mem _ hp))), S6.hok, S6.len⟩
    have pa := S6.pin (a, oe) (List.mem_append_right _ List.mem_cons_self)
    have pT := S6.pin (T, oT) (List.mem_append_right _ (List.mem_cons_of_mem _ List.mem_cons_self))
    have ga : s6.heap.get? a = some oe := pa.1
    have gT : s6.heap.get? T = some oT := pT.1
    have far : ∀ b o, sI.heap.get? b = some o → b ≠ a ∧ b ≠ T := fun b o e => by
      by_cases hb : b ∈ frs X.stack
      · rw [hs] at hb
        exact ⟨fun z => fa (by rw [← z]; exact hb), fun z => fT (by rw [← z]; exact hb)⟩
      · have q := nb b o e hb
        exact ⟨fun z => by
          rw [z, k2] at q
          exact (nomatch q), fun z => by
          rw [z, hnT] at q
          cases q⟩
    have far0 : ∀ b o, X.s_0.heap.get? b = some o → b ≠ a ∧ b ≠ T := fun b o e => by
      obtain ⟨o', q⟩ := J.base.there b o e (by rw [hex]; simp)
      exact far b o' q
    have farP : ∀ p ∈ X.pn ++ pins, p.1 ≠ a ∧ p.1 ≠ T := fun p hp => far p.1 p.2 (J.pin p hp).1
    obtain ⟨G, g1, g2⟩ := restrict s6.heap fun b => !(decide (b = a) || decide (b = T))
    have gIn : ∀ b o, G.get? b = some o → s6.heap.get? b = some o ∧ b ≠ a ∧ b ≠ T := fun b o e => by
      cases q : (!(decide (b = a) || decide (b = T))) with
      | false =>
        rw [g2 b q] at e
        cases e
      | true =>
        rw [g1 b q] at e
        simp only [Bool.not_eq_true', Bool.or_eq_false_iff, decide_eq_false_iff_not] at q
        exact ⟨e, q.1, q.2⟩
    have gOf : ∀ b o, b ≠ a → b ≠ T → s6.heap.get? b = some o → G.get? b = some o := fun b o h1 h2 e => by
      rw [g1 b (by simp [h1, h2])]
      exact e
    have I6 : Inv X pins (σ'.set i none) H' { s6 with heap := G } := J6.less (fun b o e => (gIn b o e).1) gOf ⟨oe, vs, ga, hd⟩ ⟨oT, ts, gT, hdT⟩ na nT far0 farP
    have B6in : ∀ b o, (PySem.W.hideAll G (frs X.stack)).get? b = some o → s6.heap.get? b = some o := fun b o e => (gIn b o (PySem.W.of_hideAll _ e)).1
    have Bno : ∀ b, (b = a ∨ b = T) → (PySem.W.hideAll G (frs X.stack)).get? b = none := fun b hb => by
      cases q : (PySem.W.hideAll G (frs X.stack)).get? b with
      | none => rfl
      | some o =>
        obtain ⟨_, n1, n2⟩ := gIn b o (PySem.W.of_hideAll _ q)
        rcases hb with z | z
        · exact absurd z n1
        · exact absurd z n2
    have ff : s6.heap.FunFrames (PySem.W.hideAll G (frs X.stack)) (X.env :: X.outer) := by
      have ff := funFrames_none (B := PySem.W.hideAll G (frs X.stack)) J6.stack fun b hb => PySem.W.hideAll_none _ hb
      rw [← hs]
      exact ff
    show wpAny (model X.prog X.w) A' (PySem.passOn "try.except-as" (.ref a) X.env) (fun _ _ => False) N s6
    unfold PySem.passOn
    refine wpAny_bind (wpAny_field ga hd hv1 ?_)
    rw [if_neg (show ¬ ((Value.ref T == Value.none) = true) from by simp)]
    have goOn : wpAny (model X.prog X.w) A' (setFlight (.ref a) X.env.frame) (fun _ s7 => wpAny (model X.prog X.w) A' (throw (.ref a) : Sem Flow) (fun _ _ => False) N s7) N s6 := by
      rw [hf]
      refine HandSPX.setFlight_anyZ (Z := Zc cls d) (base := PySem.W.hideAll G (frs X.stack)) (l := X.env :: X.outer) B6in ff ⟨oe, vs, T, oT, ts, ga, hz, hd, hv1, Bno T (.inr rfl), hTe, gT, hdT, ht3⟩ fun h7 q1 q2 q3 q4 => wpAny_throw (hto _ _ (tk _ _ ?_))
      refine ⟨a, PySem.W.hideAll G (frs X.stack), { s6 with heap := G }, pins, σ'.set i none, H', cls, d, rfl, I6, fun b o e hb => PySem.W.hideAll_get _ e hb, ?_, .inr (.inr ⟨q1, Bno a (.inl rfl), by rw [← hs] at q2; exact q2, q3⟩), na, rfl, J6.bare, hw⟩
      exact Heap.UpToSlots.trans (Heap.UpToSlots.of_keeps fun b o e => (gIn b o e).1) q4
    first
      | exact wpAny_bind (wpAny_pure (wpAny_bind goOn))
      | exact wpAny_bind goOn
  show wpAny (model X.prog X.w) A' (noteFrame (.ref a) X.env) _ _ _
  rcases sky' with ⟨hB, hn, hl, oe, vs, he0, hz, hd, hv1⟩ | fl | hh
  · exact HandSPX.look_newZ Zc.steady hfr hl hf he0 hB hn hd hv1 hz fin
  · exact HandSPX.looks_onZ Zc.steady hfr hf fl fin
  · exact HandSPX.againZ hf hh.2.2.2 (fin s'.heap hh (Heap.UpToSlots.refl _))
theorem ps_try_asX (hs : X.stack = X.env :: X.outer) (hf : X.env.frame = some X.env.locals) (hex : X.ex = []) (hN : X.N.Nodup) (hi : X.N[i]? = some n) (hln : X.env.kindOf n = some .local) (hc : Names X x c) (hpa : ∀ hd : Option Value, PassesOwnAt (model X.prog X.w) (X.A.mark hd) X.A X.env X.xe) (tk : L2.Takes X Wout)
    (hb : ∀ (W : WX) (pn : List (Addr × Obj)) (xe : Value → Shared → Prop), L2N.Takes (X.tr pn xe) W → L2.Takes (X.tr pn xe) (L2H.wPass X.K c Wout) → PassesOwn (model X.prog X.w) X.A X.env xe → PSs (X.tr pn xe) body (tb W))
    (hsu : ∀ (a : Addr) (oe : Obj) (cls : Value) (d : Option Addr) (pn : List (Addr × Obj)) (xe : Value → Shared → Prop), L2N.Zn cls d oe → (∃ vs, oe.data = .fields vs) → L2.Takes (suiteXE X a ((a, oe) :: pn) xe) (fun cls d σ H => Wout cls d (σ.set i none) H) → L2H.HotC (suiteXE X a ((a, oe) :: pn) xe) →
      PSs (suiteXE X a ((a, oe) :: pn) xe) (b₀ :: suite) (ts a cls d)) :
    PS X (.Try body [.ExceptHandler (some (.Name x np)) (some n) (b₀ :: suite) pos'] [] [] pos) (fun D σ H => tb (wAs X.K c i ts Wout D) D σ H) := by
  refine ⟨fun pins s σ H D I h => ?_⟩
  have ok := I.ok
  have hfr : X.A.frames = some (X.env :: X.outer) := by rw [ok.frames, hs]
  have hloc : Loc X.env.scope n := .inl hln
  have notFr : ∀ {B h : Heap} {a : Addr} {o : Obj} {vs : Array Value}, h.FunFrames B (X.env :: X.outer) → h.get? a = some o → o.data = .fields vs → a ∉ frs (X.env :: X.outer) := fun {B h a o vs} ff e dd hm => by
    obtain ⟨_, o', e', hnf⟩ := ff.mem hm
    rw [e] at e'; cases e'
    exact hnf _ dd
  have flyOn : ∀ {a : Addr} {B : Heap} {sI s' : Shared} {σ' : L2.St} {H' : Hp} {cls : Value} {d : Option Addr} {h3 : Heap}, Inv X pins σ' H' sI → (∀ b o, sI.heap.get? b = some o → b ∉ frs X.stack → B.get? b = some o) → sI.heap.UpToSlots h3 →
      HandSPX.FlyingZ B (X.env :: X.outer) a (Zc cls d) h3 → H' a = none → s'.os = sI.os → AllBare s'.gens → Wout cls d σ' H' → wpAny (model X.prog X.w) X.A (handleBy (.ref a) X.env []) (SP X pins D) X.xe { s' with heap := h3 } := by
    intro a B sI s' σ' H' cls d h3 J nb up fl3 na os ag w
    refine wpAny_handleBy_nil ?_
    obtain ⟨k1, k2, k3, oe, vs, T, oT, ts', he, hz, hd, h1, hr⟩ := id fl3
    unfold PySem.passOn
    refine wpAny_bind (wpAny_field he hd h1 ?_)
    rw [if_neg (show ¬ ((Value.ref T == Value.none) = true) from by simp)]
    have fin : wpAny (model X.prog X.w) X.A (setFlight (.ref a) X.env.frame) (fun _ s4 => wpAny (model X.prog X.w) X.A (throw (.ref a) : Sem Flow) (SP X pins D) X.xe s4) X.xe { s' with heap := h3 } := by
      rw [hf]
      refine HandSPX.setFlight_upZ fl3 fun h4 hh4 up4 => wpAny_throw (tk _ _ ?_)
      exact ⟨a, B, sI, pins, σ', H', cls, d, rfl, J, nb, up.trans up4, .inr (.inr (by rw [hs]; exact hh4)), na, os, ag, w⟩
    first
      | exact wpAny_bind (wpAny_pure (wpAny_bind fin))
      | exact wpAny_bind fin
  refine wpAny_Try_except ?_
  refine wpAny_mono ((hb (wAs X.K c i ts Wout D) (X.pn ++ pins) (fun e s₁ => wpAny (model X.prog X.w) X.A (noteFrame e X.env) (fun _ s₂ => wpAny (model X.prog X.w) X.A (setFlight e none) (fun _ s₃ =>
    wpAny (model X.prog X.w) X.A (handleBy e X.env [.ExceptHandler (some (.Name x np)) (some n) (b₀ :: suite) pos']) (SP X pins D) X.xe s₃) X.xe s₂) X.xe s₁) (fun u s' xx => ?_) (fun u s' xx => ?_) PassesOwn.looking).run [] s σ H D (I.toTry _) h) (fun f s1 hsp => ?_) (fun e s1 he => he)
  · obtain ⟨a, B, sI, pins', σ', H', cls, d, rfl, J', nb, up, sky, na, os, ag, b, hb1, hyes, hno⟩ := xx
    have J : Inv X pins σ' H' sI := J'.ofTry ok
    have sky' : Sky B (X.env :: X.outer) a (L2N.Zn cls d) X.env.locals s'.heap := by rw [← hs]; exact sky
    show wpAny (model X.prog X.w) X.A (noteFrame (.ref a) X.env) _ _ _
    refine L2N.Sky.land L2N.Zn.steady hfr hf sky' fun h3 fl3 up3 => ?_
    have J3 : Inv X pins σ' H' { s' with heap := h3 } := J.landed nb fl3.1 (up.trans up3) os ag
    obtain ⟨oe3, vs3, he3, hz3, hd3⟩ := fl3.there
    have nfr : a ∉ frs (X.env :: X.outer) := notFr fl3.2.2.1 he3 hd3
    have nL : a ≠ X.env.locals := fun z => nfr (List.mem_filterMap.mpr ⟨X.env, List.mem_cons_self, by rw [hf, z]⟩)
    have nF : a ∉ X.fs := fun hm => by
      obtain ⟨e, he, q⟩ := List.mem_filterMap.mp hm
      exact nfr (List.mem_filterMap.mpr ⟨e, List.mem_cons_of_mem _ he, q⟩)
    have S3 := J3.suite he3 hd3 na nL nF
    refine wpAny_handleBy_cons (codeAny_handlers_test ?_) (by intro q; cases q)
    have LT : PySem.W.Looks (model X.prog X.w) h3 (typeOf (.ref a)) cls := fun A Q E s k q => wpAny_typeOf_ref (k _ _ he3) (by rw [hz3.1]; exact q)
    have LM := PySem.W.exm_one (M := model X.prog X.w) (J3.kIn) LT hb1
    have test : ∀ {Q : Value → Shared → Prop} {E : Value → Shared → Prop}, Q c { s' with heap := h3 } → wpAny (model X.prog X.w) (X.A.mark (some (.ref a))) (eval (.Name x np) X.env) Q E { s' with heap := h3 } := fun {Q E} q => by
      obtain ⟨hg, hdbg, hm | ⟨hm, hv, hnn⟩⟩ := hc
      · exact ld_glob (X := X.suite a ((a, oe3) :: (X.pn ++ pins))) S3 hg hm q hdbg
      · exact ld_blt (X := X.suite a ((a, oe3) :: (X.pn ++ pins))) S3 hg hm hv q hnn hdbg
    refine test (LM.here ?_)
    cases b with
    | true =>
      refine codeAny_handlers_suite_as ?_
      refine HandSPX.lands_againZ fl3 fun h4 fl4 up4 => ?_
      have J4 : Inv X pins σ' H' { s' with heap := h4 } := J.landed nb fl4.1 ((up.trans up3).trans up4) os ag
      obtain ⟨oe4, vs4, he4, hz4, hd4⟩ := fl4.there
      have S4 := J4.suite he4 hd4 na nL nF
      refine store_ok (X := X.suite a ((a, oe4) :: (X.pn ++ pins))) (v := .ref a) S4 hN hi hloc rfl (fun s5 S5 => ?_) (.inr hln)
      have hot : L2H.HotC (suiteXE X a ((a, oe4) :: (X.pn ++ pins)) (PySem.AsSuiteRaised (model X.prog X.w) (X.A.mark (some (.ref a))) X.env n pos' (notedBy (model X.prog X.w) (X.A.mark (some (.ref a))) X.env (cameBackBy (model X.prog X.w) X.A X.env X.xe)))) := ⟨(a, oe4), ⟨rfl, vs4, hd4, hz4.2.2 vs4 hd4⟩, List.mem_cons_self⟩
      refine wpAny_mono ((hsu a oe4 cls d (X.pn ++ pins) _ hz4 ⟨_, hd4⟩ (fun u2 s2 x2 => ?_) hot).run [] s5 _ H' _ (suiteXE_of S5) (hyes rfl a na)) (fun f s6 hsp => ?_) (fun e6 s6 z => z)
      · exact as_exc hs hf hex ok hN hi hln tk (hpa (some (.ref a))) (A' := X.A.mark (some (.ref a))) hfr x2
      have end_ : ∀ {σ6 : L2.St} {H6 : Hp} {Q : Shared → Prop}, Inv X pins σ6 H6 s6 → (∀ s7, Inv X pins (σ6.set i none) H6 s7 → Q s7) →
          wpAny (model X.prog X.w) X.A (do bindName X.env n .none; unbindBehindTheSuite X.env n pos') (fun _ s7 => Q s7) X.xe s6 := fun {σ6 H6 Q} S6 hq => gone_ok S6 hN hi hln hq
      cases f with
      | next =>
        obtain ⟨σ6, H6, S6, q6⟩ := hsp
        exact end_ (unsuiteXE S6 ok) fun s7 J7 => ⟨_, _, J7, q6⟩
      | brk =>
        obtain ⟨σ6, H6, S6, q6⟩ := hsp
        exact end_ (unsuiteXE S6 ok) fun s7 J7 => ⟨_, _, J7, q6⟩
      | cont =>
        obtain ⟨σ6, H6, S6, q6⟩ := hsp
        exact end_ (unsuiteXE S6 ok) fun s7 J7 => ⟨_, _, J7, q6⟩
      | ret u =>
        obtain ⟨v6, σ6, H6, S6, r6, q6⟩ := hsp
        exact end_ (unsuiteXE S6 ok) fun s7 J7 => ⟨_, _, _, J7, r6, q6⟩
    | false =>
      show wpAny _ X.A (handleBy (.ref a) X.env []) _ _ _
      exact flyOn J nb (up.trans up3) (L2H.flyingZ_imp (fun o z => z.zc) fl3) na os ag (hno rfl)
  · obtain ⟨a, B, sI, pins', σ', H', cls, d, rfl, J', nb, up, sky, na, os, ag, hb1, hno⟩ := xx
    have J : Inv X pins σ' H' sI := J'.ofTry ok
    have sky' : Sky B (X.env :: X.outer) a (Zc cls d) X.env.locals s'.heap := by rw [← hs]; exact sky
    show wpAny (model X.prog X.w) X.A (noteFrame (.ref a) X.env) _ _ _
    refine L2.Sky.land Zc.steady hfr hf sky' fun h3 fl3 up3 => ?_
    have J3 : Inv X pins σ' H' { s' with heap := h3 } := J.landed nb fl3.1 (up.trans up3) os ag
    obtain ⟨oe3, vs3, he3, hz3, hd3⟩ := fl3.there
    have nfr : a ∉ frs (X.env :: X.outer) := notFr fl3.2.2.1 he3 hd3
    have nL : a ≠ X.env.locals := fun z => nfr (List.mem_filterMap.mpr ⟨X.env, List.mem_cons_self, by rw [hf, z]⟩)
    have nF : a ∉ X.fs := fun hm => by
      obtain ⟨e, he, q⟩ := List.mem_filterMap.mp hm
      exact nfr (List.mem_filterMap.mpr ⟨e, List.mem_cons_of_mem _ he, q⟩)
    have S3 := J3.suite he3 hd3 na nL nF
    refine wpAny_handleBy_cons (codeAny_handlers_test ?_) (by intro q; cases q)
    have LT : PySem.W.Looks (model X.prog X.w) h3 (typeOf (.ref a)) cls := fun A Q E s k q => wpAny_typeOf_ref (k _ _ he3) (by rw [hz3.1]; exact q)
    have LM := PySem.W.exm_one (M := model X.prog X.w) (J3.kIn) LT hb1
    have test : ∀ {Q : Value → Shared → Prop} {E : Value → Shared → Prop}, Q c { s' with heap := h3 } → wpAny (model X.prog X.w) (X.A.mark (some (.ref a))) (eval (.Name x np) X.env) Q E { s' with heap := h3 } := fun {Q E} q => by
      obtain ⟨hg, hdbg, hm | ⟨hm, hv, hnn⟩⟩ := hc
      · exact ld_glob (X := X.suite a ((a, oe3) :: (X.pn ++ pins))) S3 hg hm q hdbg
      · exact ld_blt (X := X.suite a ((a, oe3) :: (X.pn ++ pins))) S3 hg hm hv q hnn hdbg
    refine test (LM.here ?_)
    show wpAny _ X.A (handleBy (.ref a) X.env []) _ _ _
    exact flyOn J nb (up.trans up3) fl3 na os ag hno
  · cases f with
    | next =>
      obtain ⟨σ', H', J', q⟩ := hsp
      exact wpAny_execs_nil ⟨σ', H', J'.ofTry ok, q⟩
    | brk =>
      obtain ⟨σ', H', J', q⟩ := hsp
      exact ⟨σ', H', J'.ofTry ok, q⟩
    | cont =>
      obtain ⟨σ', H', J', q⟩ := hsp
      exact ⟨σ', H', J'.ofTry ok, q⟩
    | ret u =>
      obtain ⟨v, σ', H', J', r, q⟩ := hsp
      exact ⟨v, σ', H', J'.ofTry ok, r, q⟩
end
end Cr
/-! pairs that may be none of a library -/
namespace Cr
open PySem PySem.Spec PyProof.Rows L2 Evl
def pairDue (ns : List Str) (dk d : PyData) : Option Int := if isName dk = true then dueOf (some (ns.map V.str)) false d else some (-1)
def spLPairG (C : Addr) (n : Nat) : Sp := fun vs H Q E => ∃ (kv : V) (dk : PyData) (v : V) (d : PyData) (b : Addr) (ns : List Str), vs = [kv, v, .ref b] ∧ Dt H kv dk ∧ sm dk = true ∧ cpyTo n dk ∧ Dt H v d ∧ sm d = true ∧ H b = some (.lst (ns.map V.str)) ∧
  (pairDue ns dk d = none → ∀ H', Ex H H' → Q .non H') ∧ ∀ i, pairDue ns dk d = some i → ∀ dx H', Rsd2 H H' dx "module" "position" dk (.int i) → E (.ref C) (some dx) H'
theorem due_small {ms : Option (List V)} {main : Bool} {d : PyData} {i : Int} (h : dueOf ms main d = some i) : i.natAbs.log2 < 1000 := by
  have key : i.natAbs ≤ 30 := by
    cases d with
    | list ds =>
      by_cases h30 : ds.length > 30
      · have e : dueOf ms main (.list ds) = some (-1) := if_pos h30
        rw [e] at h
        cases h
        decide
      · have e : dueOf ms main (.list ds) = (firstBad ms main ds).map fun i => (i : Int) := if_neg h30
        rw [e] at h
        unfold firstBad at h
        cases hf : (List.range ds.length).find? (wrongAt ms main ds) with
        | none => rw [hf] at h; cases h
        | some j =>
          rw [hf] at h
          cases h
          have := List.mem_range.mp (List.mem_of_find?_eq_some hf)
          show ((j : Nat) : Int).natAbs ≤ 30
          omega
    | _ =>
      cases h
      decide
  exact Nat.lt_of_le_of_lt (Nat.log2_le_self _) (by omega)
theorem xfOfX {K : PySem.W.Frag} {C : Addr} (h : ExcC K C) : XfC K C := ⟨h.hg, h.hk, h.hs, h.hd⟩
section
variable {P : Program} {w : World} {K : PySem.W.Frag} {mg : Str → Option Value} {base : Heap}
theorem ok_lpairG {f CP CL : Addr} {fd : FuncData} {k n : Nat} (F : Fun K "check_pair" "check_pair" sLPair f fd) (TL : MkLib P w K mg base n CL) (gP : mg "InvalidProgram" = some (.ref CP)) (xm : PySem.W.exmOne K (.ref CP) (.ref CP) = some true) (ecP : ExcC K CP) (noP : PySem.W.findIn K (.ref CP) "position" = some none) (hn2 : n + 2 ≤ k) (h3 : 3 ≤ k)
    (h1 : HasO P w K mg base k "is_name" ["value"] (spD isName)) (h2 : HasN P w K mg base k "check_steps" ["value", "is_main", "modules"] (spSteps CP)) : FnOk P w K mg base (L2.CX P w) (k + 1) f fd ["key", "value", "names"] (spLPairG CL n) := by
  obtain ⟨f1, d1, G1, b1, k1, g1⟩ := h1.ex
  obtain ⟨f2, d2, G2, b2, k2, g2⟩ := h2.ex
  obtain ⟨fI, fdI, bb, Ox, FI, FH, bI, iI, tI, gC⟩ := TL.ex
  refine F.okX scLPair (fun vs H Q E h => by obtain ⟨_, _, _, _, _, _, rfl, _⟩ := h; rfl) (fun cdv A outer s H vs Q E hr h => ?_)
  obtain ⟨kv, dk, v, d, b, ns, rfl, hdk, hsk, hck, hd, hs, hb, q, qe⟩ := h
  refine ⟨_, pss_cons (ps_if (pt_not (pt_val (pe_call (E := E0) G1 hr (by rfl) g1 k1 b1 .nil pass0 (pa_cons (pv 0) pa_nil)))) (pss_one (ps_raise rfl (takes_of rfl rfl rfl rfl) (pmkG Ox iI tI FI (hr.mono hn2) bI .nil pass0 (by rfl) gC (pa_cons (pv 0) (pa_cons (pe_un un_neg pe_int) pa_nil))))) pss_nil)
    (pss_one (ps_try_asX (i := 3) (x := "InvalidProgram") (c := .ref CP) (Wout := fun cls d _ H => E cls d H) rfl rfl rfl scLPair.nd rfl rfl ⟨by rfl, by decide, .inl gP⟩ (L2H.passesAt_of rfl) (takes_of rfl rfl rfl rfl)
      (fun W pn xe tkN tk2 po => pss_one (ps_expr (pe_callSD (E := WE W) G2 hr (by rfl) g2 k2 b2 .nil (fun σ => L2N.passAt tkN σ) (pa_cons (pv 1) (pa_cons pe_bl (pa_cons (pv 2) pa_nil))))))
      (fun a oe cls d pn xe hz hf tkS hot => pss_one (L2H.ps_raiseHN hot tkS (pmk5GH Ox iI tI FH (L2H.roomH_mark (hr.mono h3) _) hot bI .nil pass0 (by rfl) gC (pa_cons (pv 0) (pa_cons (pe_xp (xfOfX ecP) noP List.mem_cons_self hz.zc hf (pv 3)) pa_nil))))))), ?_⟩
  refine q_when (b := !isName dk) (et_not (et_B (ev_call (ea_cons (ev_var rfl) ea_nil) (spv_D hdk hsk)))) (fun hb1 H1 e1 => ?_) (fun hb1 H1 e1 => ?_)
  · rw [Bool.not_eq_true'] at hb1
    have due : pairDue ns dk d = some (-1) := if_neg (by rw [hb1]; decide)
    exact mk_lib ⟨kv, rfl, 1, rfl, kv, dk, -1, rfl, by decide +kernel, Dt.ex e1 hdk, hck, fun dx H' r => qe (-1) due dx H' (r.back e1)⟩ (fun k ⟨i, e, j, e2, r⟩ => ⟨i, e, j, e2, k _ _ r⟩)
  · rw [Bool.not_eq_false'] at hb1
    obtain ⟨x, rfl⟩ : ∃ x, dk = .str x := by
      cases dk with
      | str x => exact ⟨x, rfl⟩
      | _ => exact nomatch hb1
    cases hdk
    have due : pairDue ns (.str x) d = dueOf (some (ns.map V.str)) false d := if_pos hb1
    refine ⟨v, rfl, .ref b, rfl, v, d, false, .ref b, some (ns.map V.str), rfl, Dt.ex e1 hd, hs, ⟨b, rfl, e1 _ _ hb, flat_strs ns⟩, fun hn H2 e2 => q (due.trans hn) H2 (e1.trans e2), fun i hi dx H2 hz e2 hx => ?_⟩
    refine ⟨true, xm, fun _ a1 ha1 => ?_, fun z => nomatch z⟩
    exact mk_libS ⟨.str x, rfl, .ref a1, rfl, rfl, rfl, dx, _, .int i, rfl, hx, rfl, x, i, rfl, due_small hi, fun dx2 H' r => qe i (due.trans hi) dx2 H' (r.back (e1.trans e2))⟩ (fun k ⟨i, e, j, e2, e3, e7, dd, fs, u, e4, e5, e6, r⟩ => ⟨i, e, j, e2, e3, e7, dd, fs, u, e4, e5, e6, k _ _ r⟩)
end
end Cr
/-! libraries: len, repr, a module that is unknown -/
namespace Cr
open PySem PySem.Spec PyProof.Rows L2 Evl
abbrev sLLen : Stmt := inClass (topS 29) 3
abbrev sLRepr : Stmt := inClass (topS 29) 4
theorem scLLen : FnScope ["self"] ["self"] (defScope sLLen) := ⟨rfl, rfl, rfl, by decide +kernel, rfl, by decide +kernel, by decide +kernel⟩
theorem scLRepr : FnScope ["self"] ["self"] (defScope sLRepr) := ⟨rfl, rfl, rfl, by decide +kernel, rfl, by decide +kernel, by decide +kernel⟩
def reprL (L : Lib) : Str := ((Str.empty ++ "Library(") ++ (libD L).shown) ++ ")"
def spLRepr (C : Addr) : Sp := fun vs H Q _ => ∃ x L, vs = [.ref x] ∧ LbAt C H x L ∧ Fits (libD L) ∧ (libD L).shown.length ≤ 16000000 ∧ ∀ H', Ex H H' → Q (.str (reprL L)) H'
def spLLen (C : Addr) : Sp := fun vs H Q _ => ∃ x L, vs = [.ref x] ∧ LbAt C H x L ∧ ∀ H', Ex H H' → Q (.int (L.length : Int)) H'
/-- a copy of the program, or the value is told -/
def spLIniG (C CU : Addr) (n : Nat) : Sp := fun vs H Q E => ∃ (x : Addr) (v : V) (d : PyData) (L : Lib), vs = [.ref x, v] ∧ LbAt C H x L ∧ Dt H v d ∧ sm d = true ∧ cpyTo n d ∧
  (∀ m, d = .str m → hasL L d = true → ∀ l xs H', H l = none → Ex H H' → H' l = some (.lst xs) → DtAll H' xs ((progL L m).map PyData.tuple) → Q (.ref l) H') ∧
  (hasL L d = false → ∀ dx H', Rsd1 H H' dx "value" d → E (.ref CU) (some dx) H')
section
variable {P : Program} {w : World} {K : PySem.W.Frag} {mg : Str → Option Value} {base : Heap}
theorem ok_llen {f C : Addr} {fd : FuncData} {k : Nat} (F : Fun K "__len__" "Library.__len__" sLLen f fd) (B : Blt mg) (T : LbC K mg C) : FnOk P w K mg base CX0 (k + 1) f fd ["self"] (spLLen C) := by
  refine F.ok scLLen (fun vs H Q E h => by obtain ⟨_, _, rfl, _⟩ := h; rfl) (fun cdv A outer s H vs Q E hr h => ?_)
  obtain ⟨x, L, rfl, lb, q⟩ := h
  obtain ⟨dx, dd, kvs, o1, o2, o3⟩ := lb.ob
  refine ⟨_, pss_one (ps_ret (pe_callB call_lenD (by rfl) B.len bLen (pa_cons (pe_fld (pv 0) rfl) pa_nil))), ?_⟩
  refine ⟨.ref x, rfl, x, C, dx, _, .ref dd, rfl, o1, T.cl, T.nI, rfl, dd, kvs, rfl, o2, ?_⟩
  rw [lkv_len o3]
  exact q H (Ex.refl H)
theorem ok_lrepr {f C : Addr} {fd : FuncData} {k : Nat} (F : Fun K "__repr__" "Library.__repr__" sLRepr f fd) (T : LbC K mg C) : FnG P w K mg base CX0 (k + 1) f fd ["self"] (spLRepr C) := by
  refine okG F scLRepr (fun vs H Q E h => by obtain ⟨_, _, rfl, _⟩ := h; rfl) (fun cdv A outer s H vs Q E hq hr h => ?_)
  obtain ⟨x, L, rfl, lb, ft, sz, q⟩ := h
  obtain ⟨dx, dd, kvs, o1, o2, o3⟩ := lb.ob
  refine ⟨_, pss_one (ps_ret (pe_joined (PJ.cons pe_str (PJ.cons (pe_fmtDct hq hr.units (pe_fld (pv 0) rfl)) (PJ.cons pe_str PJ.nil))))), ?_⟩
  have l1 : (Str.empty ++ ("Library(" : Str)).length = 8 := by decide +kernel
  have l2 : ((")" : Str)).length = 1 := by decide +kernel
  refine ⟨_, rfl, by rw [sizeLine_eq]; decide +kernel, ⟨.ref x, rfl, x, C, dx, _, .ref dd, rfl, o1, T.cl, T.nI, rfl, dd, kvs, _, rfl, o2, o3, ft, _, rfl, ?_, _, rfl, ?_, q H (Ex.refl H)⟩⟩
  · have sz' : (PyData.dict (L.map fun r => (PyData.str r.1, progD r.2))).shown.length ≤ 16000000 := sz
    rw [Str.length_append, l1, sizeLine_eq]
    omega
  · have sz' : (PyData.dict (L.map fun r => (PyData.str r.1, progD r.2))).shown.length ≤ 16000000 := sz
    rw [Str.length_append, Str.length_append, l1, l2, sizeLine_eq]
    omega
theorem ok_liniG {f C CU : Addr} {fd : FuncData} {k n : Nat} (F : Fun K "initializer" "Library.initializer" sLIni f fd) (B : Blt mg) (T : LbC K mg C) (TU : MkErr P w K mg base (n + 1) CU "UnknownModule" 1 (spInitC CU "value" n)) (hn2 : n + 2 ≤ k) (h1 : HasM P w K mg base CX0 k C "has_module" ["self", "value"] (spLHas C)) : FnOk P w K mg base (L2.CX P w) (k + 1) f fd ["self", "module"] (spLIniG C CU n) := by
  obtain ⟨f1, d1, G1, b1, m1⟩ := h1.ex
  obtain ⟨fI, fdI, bb, psI, lpI, Ox, FI, bI, iI, tI, gC⟩ := TU
  refine F.okX scLIni (fun vs H Q E h => by obtain ⟨_, _, _, _, rfl, _⟩ := h; rfl) (fun cdv A outer s H vs Q E hr h => ?_)
  obtain ⟨x, v, d, L, rfl, lb, hd, hs, hc, q, qe⟩ := h
  have hu := hu_of hr
  refine ⟨_, pss_cons (ps_if (pt_not (pt_val (pe_meth (E := E0) (pv 0) T.cl m1 G1 hr b1 .nil pass0 (pa_cons (pv 1) pa_nil)))) (pss_one (ps_raise rfl (takes_of rfl rfl rfl rfl) (pmkG Ox iI tI FI (hr.mono hn2) bI .nil pass0 (by rfl) gC (pa_cons (pv 1) pa_nil)))) pss_nil)
    (pss_one (ps_ret (pe_callTy call_list_of (by rfl) B.list bList (pa_cons (pe_dget hu (pe_fld (pv 0) rfl) (pv 1) (fun _ _ => rfl)) pa_nil)))), ?_⟩
  obtain ⟨dx, dd, kvs, o1, o2, o3⟩ := lb.ob
  refine q_when (b := !hasL L d) (et_not (et_B (ev_mth (ev_var rfl) o1 rfl (ea_cons (ev_var rfl) ea_nil) (z := .bl (hasL L d)) (fun H1 e1 Q q E => ⟨x, v, d, L, rfl, lb.ex e1, Dt.ex e1 hd, hs, q⟩)))) (fun hb H1 e1 => ?_) (fun hb H1 e1 => ?_)
  · rw [Bool.not_eq_true'] at hb
    exact mk_cpy ⟨v, rfl, v, d, rfl, Dt.ex e1 hd, hc, fun dx H' r => qe hb dx H' (r.back e1)⟩ (fun k ⟨i, e, r⟩ => ⟨i, e, k _ _ r⟩)
  rw [Bool.not_eq_false'] at hb
  obtain ⟨m, rfl⟩ : ∃ m, d = .str m := by
    cases d with
    | str m => exact ⟨m, rfl⟩
    | _ => exact nomatch hb
  cases hd
  have hb2 : (isNameS m && (rowL L m).isSome) = true := hb
  rw [Bool.and_eq_true] at hb2
  rcases lkv_val m (DtKv.ex e1 o3) with ⟨z, _⟩ | ⟨r', v', hr', hv', dv'⟩
  · rw [z] at hb2
    exact nomatch hb2.2
  have ep : progL L m = r'.2 := by
    unfold progL
    rw [hr']
  obtain ⟨al, xs, rfl, hal, hxs⟩ := dt_lst dv'
  refine ⟨.ref x, rfl, x, C, dx, _, .ref dd, rfl, e1 _ _ o1, T.cl, T.nI, rfl, .str m, rfl, dd, .ref al, rfl, ?_, al, xs, rfl, .inl (sq_of hal), fun l zl => ?_⟩
  · rw [← hv']
    exact DGet.k (k := Sum.inr m) (e1 _ _ o2)
  · exact q m rfl hb l xs _ (fresh_back e1 zl) (e1.trans (Ex.new zl)) upd_same (by rw [ep]; exact DtAll.ex (Ex.new zl) hxs)
end
end Cr
/-! texts joined -/
namespace Cr
open PySem PySem.Spec PyProof.Rows L2 Evl
abbrev rJoinT (K : PySem.W.Frag) : V → List V → Hp → VK → Prop := fun x xs H Q => ∃ a p, ∃ ys : List Str, x = .str a ∧ xs = [.ref p] ∧ (SqL K H p (ys.map V.str) ∨ SqT K H p (ys.map V.str)) ∧ (ys.map (·.length)).sum + ys.length * a.length ≤ 16777216 ∧ Q (.str (Txt.join a ys)) H
theorem ev_join {K : PySem.W.Frag} {te : TE} {σ : L2.St} {H : Hp} {a : Str} {ys : List Str} (h : EvL te σ H (ys.map V.str)) (hz : (ys.map (·.length)).sum + ys.length * a.length ≤ 16777216) : Ev (tM1 (rJoinT K) (tC (.str a)) te) σ H (.str (Txt.join a ys)) := fun H1 e Q q =>
  ⟨⟨a, rfl⟩, h H1 e _ fun p H2 zp e2 hp => ⟨a, p, ys, rfl, rfl, .inl (sq_of hp), hz, q H2 e2⟩⟩
end Cr
/-! general: walks over lists of data -/
namespace Cr
open PySem PySem.Spec PyProof.Rows L2 Evl
def YData (ds : List PyData) : Nat → Hp → V → Hp → Prop := fun i H x H' => H' = H ∧ ∃ d, ds[i]? = some d ∧ Dt H x d
theorem walk_data {K : PySem.W.Frag} {a : Addr} {xs : List V} {ds : List PyData} (l : xs.length = ds.length) : Walk (Itl K a) ds.length (fun H => SqL K H a xs ∧ DtAll H xs ds) (YData ds) := by
  have w := walk_list (K := K) (a := a) (xs := xs)
  rw [l] at w
  refine ⟨fun i H hi g => w.goes i H hi g.1, fun H g => w.stops H g.1, fun i H x H' hi g y => ?_⟩
  obtain ⟨e, h⟩ := w.yields i H x H' hi g.1 y
  exact ⟨e, DtAll.get g.2 h⟩
end Cr
/-! dicts of data opened, tuples of data walked -/
namespace Cr
open PySem PySem.Spec PyProof.Rows L2 Evl
theorem dt_dct {H : Hp} {a : Addr} {es : List (PyData × PyData)} (h : Dt H (.ref a) (.dict es)) : ∃ kvs, H a = some (.dK kvs) ∧ DtKv H kvs es := by
  cases h with
  | dct h t => exact ⟨_, h, t⟩
abbrev rAddS : R2 := fun x y H Q => ∃ i j, x = .str i ∧ y = .str j ∧ i.length + j.length ≤ sizeLine ∧ Q (.str (i ++ j)) H
end Cr
/-! _law_read_step, as six laws draw it -/
namespace Cr
open PySem PySem.Spec PyProof.Rows L2 Evl
abbrev sRead : Stmt := topS 39
abbrev nRead : List Str := ["_law_pot_here", "_law_targets", "_law_labels", "_law_earlier", "_law_known", "_law_module", "_law_step"]
theorem scRead : FnScope nRead ["_law_pot_here", "_law_targets", "_law_labels", "_law_earlier"] (defScope sRead) := ⟨rfl, rfl, rfl, by decide +kernel, rfl, by decide +kernel, by decide +kernel⟩
theorem plain_or2 {us : List V} (h : StepV us) : PlainV us ∨ OtherV us := by
  cases e : isPlain (.tuple (us.map flD)) with
  | true => exact .inl (plain_of h e)
  | false => exact .inr (other_of h e)
/-- does a step need a module, and which -/
def isNT (us : List V) : Bool := inV (us.getD 0 .non) [.str "need", .str "try"]
theorem nt_no {z : Str} {r : List V} {α : Prop} (h : inV (.str z) [.str "need", .str "try"] = false) (hn : isNT (.str z :: r) = true) : α := by
  have e : isNT (.str z :: r) = inV (.str z) [.str "need", .str "try"] := rfl
  rw [e, h] at hn
  cases hn
theorem nt_name {us : List V} (h : StepV us) (hn : isNT us = true) : ∃ x, us[1]? = some (.str x) ∧ isNameS x = true := by
  rcases plain_or2 h with pl | ov
  · cases pl <;> exact nt_no (by decide +kernel) hn
  · have hs := h.step
    cases ov with
    | exp => exact nt_no (by decide +kernel) hn
    | read => exact nt_no (by decide +kernel) hn
    | fail => exact nt_no (by decide +kernel) hn
    | @need m =>
      refine ⟨m, rfl, ?_⟩
      have z : isStep (.tuple (.str "need" :: [.str m])) = true := hs
      rw [isStep_eq sh_need, items1, it_mod] at z
      exact (Bool.and_eq_true_iff.mp z).2
    | @try_ m x hx =>
      refine ⟨m, rfl, ?_⟩
      have z : isStep (.tuple (.str "try" :: [.str m, .str x])) = true := hs
      rw [isStep_eq sh_try, items2, it_mod] at z
      exact (Bool.and_eq_true_iff.mp (Bool.and_eq_true_iff.mp z).2).1
theorem nt_in {ts : List Str} {us : List V} (h : StepV us) (hn : isNT us = true) (hm : ModIn ts us) : ∃ x, us[1]? = some (.str x) ∧ x ∈ ts := by
  rcases plain_or2 h with pl | ov
  · cases pl <;> exact nt_no (by decide +kernel) hn
  · cases ov with
    | exp => exact nt_no (by decide +kernel) hn
    | read => exact nt_no (by decide +kernel) hn
    | fail => exact nt_no (by decide +kernel) hn
    | @need m => exact ⟨m, rfl, hm m (modO_some (z := "need") (ds := [.str m]) (i := 1) (by decide +kernel) rfl)⟩
    | @try_ m x hx => exact ⟨m, rfl, hm m (modO_some (z := "try") (ds := [.str m, .str x]) (i := 1) (by decide +kernel) rfl)⟩
def spRead : Sp := fun vs H Q _ => ∃ (p tg lb er : Addr) (ts ls : List Str) (xs : List V) (vss : List (List V)) (a : Nat), vs = [.ref p, .ref tg, .ref lb, .ref er] ∧ Pot H p ∧ tg ≠ p ∧ H tg = some (.lst (ts.map V.str)) ∧ 1 ≤ ts.length ∧ ts.length ≤ 100 ∧ (∀ x ∈ ts, isNameS x = true) ∧
  lb ≠ p ∧ H lb = some (.lst (ls.map V.str)) ∧ 1 ≤ ls.length ∧ ls.length ≤ 100 ∧ (∀ x ∈ ls, isNameS x = true) ∧ er ≠ p ∧ H er = some (.lst xs) ∧ Steps H xs vss ∧ vss.length ≤ 100 ∧ (∀ us ∈ vss, StepV us) ∧ (∀ us ∈ vss, ModIn ts us) ∧ StepTo p H a ts Q
section
variable {P : Program} {w : World} {K : PySem.W.Frag} {mg : Str → Option Value} {base : Heap}
theorem ok_read {f : Addr} {fd : FuncData} {k : Nat} (F : Fun K "_law_read_step" "_law_read_step" sRead f fd) (B : Blt mg) (C : Has P w K mg base k "_law_choice" ["_law_pot_here", "_law_options"] spChoice) :
    FnG P w K mg base CX0 (k + 1) f fd ["_law_pot_here", "_law_targets", "_law_labels", "_law_earlier"] spRead := by
  obtain ⟨fC, fdC, GC, bC, kC, gC⟩ := C.ex
  refine okG F scRead (fun vs H Q E h => by obtain ⟨_, _, _, _, _, _, _, _, _, rfl, _⟩ := h; rfl) (fun cdv A outer s H vs Q E hq hr h => ?_)
  obtain ⟨p, tg, lb, er, ts, ls, xs, vss, a, rfl, pot, tn, htg, t1, t100, hts, ln, hlb, l1, l100, hls, en, her, hst, v100, hV, hMi, q⟩ := h
  refine ⟨_, pss_cons (ps_setLc (i := 4) (own := [("_law_step", 6)]) (g := gName 6) (tt := tTest (tOp (rIn K false) (tOp (rIxT K) (tVar 6) (tC (.int 0))) (tTup (tCons (tC (.str "need")) (tCons (tC (.str "try")) tNil))))) (te := tOp (rIxT K) (tVar 6) (tC (.int 1))) rfl scRead.nd rfl rfl (sw_true rfl rfl rfl (by decide +kernel)) (pi_list (pv 3)) (blkOk_by (own := [("_law_step", 6)]) (N := nRead) (sc := defScope sRead) (by decide +kernel))
        (fun _ _ _ _ _ => pg_name (i := 6) scRead.nd rfl (Or.inl rfl)) (fun _ _ _ _ _ => by exact pts_one (pt_cmpR op_in_seq (pe_ix ix_tup (pv 6) pe_int (fun _ _ => rfl)) (pe_tup (pa_cons pe_str (pa_cons pe_str pa_nil))) (by rfl))) (fun _ _ _ _ _ => by exact pe_ix ix_tup (pv 6) pe_int (fun _ _ => rfl)))
    (pss_cons (ps_set (i := 5) scRead.nd rfl (.inl rfl) (callG GC hq hr (by rfl) gC kC bC .nil pass0 (pa_cons (pv 0) (pa_cons (pe_op op_cat (pe_op op_cat (pe_op op_cat (pv 1) (pv 4)) (pv 4)) (pv 4)) pa_nil))))
    (pss_one (ps_ret (pe_tup (pa_cons pe_str (pa_cons (callG GC hq hr (by rfl) gC kC bC .nil pass0 (pa_cons (pv 0) (pa_cons pe_str pa_nil))) (pa_cons (pv 5) (pa_cons (callG GC hq hr (by rfl) gC kC bC .nil pass0 (pa_cons (pv 0) (pa_cons (pv 2) pa_nil))) pa_nil)))))))), ?_⟩
  have out : ∀ {us : List V} {H' : Hp} {t : Addr}, StepOk us → us.all isSI = true → ModIn ts us → isBefore (.tuple (us.map flD)) (a : Int) = true → Drew p H H' → H' t = none → Q (.ref t) (upd H' t (.tup us)) := fun {us H' t} so si mi bf r zt =>
    q t us _ (fresh_drew r pot zt) upd_same (stepV_ok so si).1 (stepV_ok so si).2 mi bf (r.new zt)
  have lx := hst.length
  have lc := el_lcW (wi := iList K (tVar 3)) (g := gName 6) (tt := tTest (tOp (rIn K false) (tOp (rIxT K) (tVar 6) (tC (.int 0))) (tTup (tCons (tC (.str "need")) (tCons (tC (.str "try")) tNil))))) (te := tOp (rIxT K) (tVar 6) (tC (.int 1))) (vs := [6])
    (σ := [some (.ref p), some (.ref tg), some (.ref lb), some (.ref er), none, none, none]) (H := H) (n := xs.length) (Y := YAt xs) (fun i => isNT (vss.getD i [])) (fun i => (vss.getD i []).getD 1 .non) (by omega)
    (fun H1 e1 R r => ⟨.ref er, rfl, er, rfl, ⟨_, sq_of (e1 _ _ her)⟩, r H1 _ _ (walk_list (K := K) (a := er) (xs := xs)) (fun _ _ e z => ex_l e z) (Ex.refl H1) (sq_of (e1 _ _ her))⟩)
    (fun i y H1 H2 e1 hi hy => by
      obtain ⟨rfl, hy⟩ := hy
      have hiv : i < vss.length := by omega
      obtain ⟨t, ht, hT⟩ := hst.get (List.getElem?_eq_getElem hiv)
      rw [ht] at hy
      cases hy
      have gd : vss.getD i [] = vss[i] := by rw [List.getD_eq_getElem?_getD, List.getElem?_eq_getElem hiv]; rfl
      have sv := hV _ (List.getElem_mem hiv)
      have hT1 := e1 _ _ hT
      obtain ⟨y0, h0⟩ : ∃ y0, vss[i][0]? = some y0 := ⟨_, List.getElem?_eq_getElem sv.len1⟩
      have e0 : (vss[i]).getD 0 .non = y0 := by rw [List.getD_eq_getElem?_getD, h0]; rfl
      have f0 : flatV y0 = true := List.all_eq_true.mp (stepV_flat sv) _ (List.mem_of_getElem? h0)
      refine ⟨Ex.refl _, [some (.ref p), some (.ref tg), some (.ref lb), some (.ref er), none, none, some (.ref t)], rfl, fun R r => r, ?_, fun hn => ?_⟩
      · refine et_is (et_test (ev_inU (ev_op (ev_var rfl) ev_c (rv_ixT (st_of hT1) (atI_nat (j := 0) h0))) (eu_tup (ea_cons ev_c (ea_cons ev_c ea_nil)) (by show 2 ≤ 100000; decide)) f0 rfl)) ?_
        unfold isNT
        rw [gd, e0]
      · rw [gd] at hn
        obtain ⟨nm, h1, _⟩ := nt_name sv hn
        refine ev_is (ev_op (ev_var rfl) ev_c (rv_ixT (st_of hT1) (atI_nat (j := 1) h1))) ?_
        rw [gd, List.getD_eq_getElem?_getD, h1]
        rfl)
  obtain ⟨ns, hns, nn, nl⟩ : ∃ ns : List Str, given xs.length (fun i => isNT (vss.getD i [])) (fun i => (vss.getD i []).getD 1 .non) = ns.map V.str ∧ (∀ x ∈ ns, x ∈ ts) ∧ ns.length ≤ 100 := by
    unfold given
    have all : ∀ l : List Nat, (∀ i ∈ l, i < vss.length ∧ isNT (vss.getD i []) = true) → ∃ ns : List Str, l.map (fun i => (vss.getD i []).getD 1 V.non) = ns.map V.str ∧ (∀ x ∈ ns, x ∈ ts) ∧ ns.length = l.length := by
      intro l
      induction l with
      | nil => exact fun _ => ⟨[], rfl, (fun _ h => nomatch h), rfl⟩
      | cons i r ih =>
        intro h
        obtain ⟨ns, e1, e2, e3⟩ := ih fun j hj => h j (List.mem_cons_of_mem _ hj)
        obtain ⟨hi, hn⟩ := h i List.mem_cons_self
        have gd : vss.getD i [] = vss[i] := by rw [List.getD_eq_getElem?_getD, List.getElem?_eq_getElem hi]; rfl
        rw [gd] at hn
        obtain ⟨nm, h1, h2⟩ := nt_in (hV _ (List.getElem_mem hi)) hn (hMi _ (List.getElem_mem hi))
        refine ⟨nm :: ns, ?_, fun x hx => ?_, by rw [List.length_cons, List.length_cons, e3]⟩
        · rw [List.map_cons, List.map_cons, e1, gd, List.getD_eq_getElem?_getD, h1]; rfl
        · rcases List.mem_cons.mp hx with rfl | hx
          · exact h2
          · exact e2 x hx
    obtain ⟨ns, e1, e2, e3⟩ := all ((List.range xs.length).filter fun i => isNT (vss.getD i [])) fun i hi => by
      obtain ⟨h1, h2⟩ := List.mem_filter.mp hi
      exact ⟨by have := List.mem_range.mp h1; omega, h2⟩
    refine ⟨ns, e1, e2, ?_⟩
    have := List.length_filter_le (fun i => isNT (vss.getD i [])) (List.range xs.length)
    rw [List.length_range] at this
    omega
  rw [hns] at lc
  refine q_asgL lc fun Kn H1 zK e1 hK => ?_
  have r1 : Drew p H H1 := Drew.of pot e1
  have htg1 := r1.at tn htg
  have nK : ∀ {c : Addr} {H' : Hp}, H' Kn = some (.lst (ns.map V.str)) → H' c = none → Kn ≠ c := fun h z e => by rw [← e, h] at z; cases z
  have le : ∀ {n : Nat}, n ≤ 1000 → n ≤ sizeLine := fun h => by rw [sizeLine_eq]; omega
  refine q_asgAny ⟨.ref p, rfl, .ref tg, rfl, .ref Kn, rfl, tg, Kn, _, _, rfl, rfl, htg1, hK, le (by rw [List.length_map, List.length_map]; omega), fun p1 z1 => ?_⟩
  have r2 := r1.new (o := .lst (ts.map V.str ++ ns.map V.str)) z1
  have hK2 : (upd H1 p1 (.lst (ts.map V.str ++ ns.map V.str))) Kn = some (.lst (ns.map V.str)) := by rw [upd_ne (nK hK z1)]; exact hK
  refine ⟨.ref Kn, rfl, p1, Kn, _, _, rfl, rfl, upd_same, hK2, le (by rw [List.length_append, List.length_map, List.length_map]; omega), fun p2 z2 => ?_⟩
  have r3 := r2.new (o := .lst (ts.map V.str ++ ns.map V.str ++ ns.map V.str)) z2
  have hK3 := (show (upd (upd H1 p1 (.lst (ts.map V.str ++ ns.map V.str))) p2 (.lst (ts.map V.str ++ ns.map V.str ++ ns.map V.str))) Kn = some (.lst (ns.map V.str)) by rw [upd_ne (nK hK2 z2)]; exact hK2)
  refine ⟨.ref Kn, rfl, p2, Kn, _, _, rfl, rfl, upd_same, hK3, le (by rw [List.length_append, List.length_append, List.length_map, List.length_map]; omega), fun p3 z3 => ?_⟩
  have r4 := r3.new (o := .lst (ts.map V.str ++ ns.map V.str ++ ns.map V.str ++ ns.map V.str)) z3
  refine ⟨p, r4.pot, .inl ⟨p3, _, rfl, r3.neq z3, upd_same, by rw [List.length_append, List.length_append, List.length_append, List.length_map, List.length_map]; omega, by rw [List.length_append, List.length_append, List.length_append, List.length_map, List.length_map]; omega, fun v H5 hv r5 => ?_⟩⟩
  obtain ⟨md, rfl, hmd⟩ : ∃ md, v = .str md ∧ md ∈ ts := by
    simp only [List.mem_append, List.mem_map] at hv
    rcases hv with ((⟨x, h1, h2⟩ | ⟨x, h1, h2⟩) | ⟨x, h1, h2⟩) | ⟨x, h1, h2⟩
    · exact ⟨x, h2.symm, h1⟩
    · exact ⟨x, h2.symm, nn x h1⟩
    · exact ⟨x, h2.symm, nn x h1⟩
    · exact ⟨x, h2.symm, nn x h1⟩
  have r05 := r4.trans r5
  refine ⟨.ref p, rfl, p, r05.pot, .inr ⟨"abcd", rfl, by decide +kernel, by decide +kernel, fun c H6 hc r6 => ?_⟩⟩
  have r06 := r05.trans r6
  have v1 := abcd_var c hc
  generalize (⟨#[c]⟩ : Str) = y1 at v1
  refine ⟨.str md, rfl, .ref p, rfl, .ref lb, rfl, p, r06.pot, .inl ⟨lb, _, rfl, ln, r06.at ln hlb, by rw [List.length_map]; omega, by rw [List.length_map]; omega, fun v H7 hv r7 => ⟨by show 4 ≤ sizeLine; decide, fun t zt => ?_⟩⟩⟩
  obtain ⟨nm, hnm, rfl⟩ := List.mem_map.mp hv
  have so := st_read v1 (hts md hmd) (hls nm hnm)
  exact out so rfl (modIn_yes (i := 2) (by decide +kernel) rfl hmd) (before_ne _ so.step (by decide +kernel)) (r06.trans r7) zt
end
end Cr
/-! _law_program, as six laws draw it -/
namespace Cr
open PySem PySem.Spec PyProof.Rows L2 Evl
abbrev sGen : Stmt := topS 40
abbrev pGen : List Str := ["_law_pot_here", "_law_targets", "_law_labels", "_law_most", "_law_is_main"]
abbrev nGen : List Str := ["_law_pot_here", "_law_targets", "_law_labels", "_law_most", "_law_is_main", "_law_found", "_law_size", "_law_place", "_law_way"]
theorem scGen : FnScope nGen pGen (defScope sGen) := ⟨rfl, rfl, rfl, by decide +kernel, rfl, by decide +kernel, by decide +kernel⟩
/-- a program is drawn: all of it steps, in their room -/
structure Made (p : Addr) (ts : List Str) (H H' : Hp) (D : Addr) (sz i : Nat) (ys : List V) (vss : List (List V)) : Prop where
  dr : Drew p H H'
  hD : H' D = some (.lst ys)
  st : Steps H' ys vss
  len : vss.length = i
  ok : ∀ us ∈ vss, StepV us ∧ intsIn us
  mi : ∀ us ∈ vss, ModIn ts us
  bf : ∀ (j : Nat) us, vss[j]? = some us → isBefore (.tuple (us.map flD)) ((sz : Int) - j - 1) = true
theorem Made.add {p D t : Addr} {ts : List Str} {H H1 H5 : Hp} {sz i : Nat} {ys : List V} {vss : List (List V)} {us : List V} (md : Made p ts H H1 D sz i ys vss) (hD : H D = none) (Dn : D ≠ p) (hi : i < sz) (zt : H1 t = none) (hT : H5 t = some (.tup us)) (sv : StepV us) (hn : intsIn us) (mi : ModIn ts us)
    (bf : isBefore (.tuple (us.map flD)) ((sz - i - 1 : Nat) : Int) = true) (r5 : Drew p H1 H5) : Made p ts H (upd H5 D (.lst (ys ++ [.ref t]))) D sz (i + 1) (ys ++ [.ref t]) (vss ++ [us]) := by
  have hD5 := r5.at Dn md.hD
  have lt : D ≠ t := fun e => by rw [← e, md.hD] at zt; cases zt
  have tp : Tps H1 (upd H5 D (.lst (ys ++ [.ref t]))) := (r5.tps md.dr.pot).upd fun zs z => by rw [hD5] at z; cases z
  have lv := md.len
  have ea : ((sz : Int) - (i : Int) - 1) = ((sz - i - 1 : Nat) : Int) := by omega
  refine ⟨(md.dr.trans r5).mut hD Dn, upd_same, (md.st.tps tp).snoc (by rw [upd_ne lt.symm]; exact hT), by rw [List.length_append, lv]; rfl, fun u hu => ?_, fun u hu => ?_, fun j' u hu => ?_⟩
  · rcases List.mem_append.mp hu with z | z
    · exact md.ok u z
    · rw [List.mem_singleton.mp z]; exact ⟨sv, hn⟩
  · rcases List.mem_append.mp hu with z | z
    · exact md.mi u z
    · rw [List.mem_singleton.mp z]; exact mi
  · by_cases hlt : j' < vss.length
    · rw [List.getElem?_append_left hlt] at hu
      exact md.bf j' u hu
    · have hl : j' < (vss ++ [us]).length := (List.getElem?_eq_some_iff.mp hu).1
      rw [List.length_append, List.length_singleton] at hl
      have ej : j' = vss.length := by omega
      subst ej
      rw [List.getElem?_append_right (Nat.le_refl _), Nat.sub_self] at hu
      cases hu
      rw [lv, ea]
      exact bf
theorem Made.drew {p D : Addr} {ts : List Str} {H H1 H2 : Hp} {sz i : Nat} {ys : List V} {vss : List (List V)} (md : Made p ts H H1 D sz i ys vss) (Dn : D ≠ p) (r : Drew p H1 H2) : Made p ts H H2 D sz i ys vss :=
  ⟨md.dr.trans r, r.at Dn md.hD, md.st.tps (r.tps md.dr.pot), md.len, md.ok, md.mi, md.bf⟩
def spGen : Sp := fun vs H Q _ => ∃ (p tg lb : Addr) (ts ls : List Str) (most : Nat) (main : Bool), vs = [.ref p, .ref tg, .ref lb, .int (most : Int), .bl main] ∧ Pot H p ∧ tg ≠ p ∧ H tg = some (.lst (ts.map V.str)) ∧ ts.length ≤ 100 ∧ (∀ x ∈ ts, isNameS x = true) ∧
  lb ≠ p ∧ H lb = some (.lst (ls.map V.str)) ∧ 1 ≤ ls.length ∧ ls.length ≤ 100 ∧ (∀ x ∈ ls, isNameS x = true) ∧ most ≤ 90 ∧
  ∀ D ys vss sz H', H D = none → sz ≤ most → Made p ts H H' D sz sz ys vss → Q (.ref D) H'
theorem t1_of {ts : List Str} {b : Bool} (h : (!ts.isEmpty && b) = true) : 1 ≤ ts.length := by
  cases ts with
  | nil => cases h
  | cons t r => exact Nat.succ_pos _
section
variable {P : Program} {w : World} {K : PySem.W.Frag} {mg : Str → Option Value} {base : Heap}
theorem ev_neNilB {σ : L2.St} {H : Hp} {tg : Addr} {ts : List Str} {i : Nat} (hσ : σ[i]? = some (some (.ref tg))) (h : H tg = some (.lst (ts.map V.str))) (hn : ∀ x ∈ ts, isNameS x = true) : Ev (tOp (rNeD K) (tVar i) (tLst tNil)) σ H (.bl (!ts.isEmpty)) := by
  refine ev_opL (xs := []) (ev_var hσ) (el_lst ea_nil (Nat.zero_le _)) fun q H1 hq e1 => ?_
  intro H2 e2 Q q'
  refine ⟨.list (ts.map .str), .list [], .lst (sq_of (e2 _ _ (e1 _ _ h))) (dp_names ts), .lst (sq_of (e2 _ _ hq)) .nil, ?_, by decide +kernel, ?_⟩
  · show (PyData.canLay0 _ && decide (PyData.depth _ ≤ 64)) = true
    rw [names_lay ts hn, Bool.true_and, PyData.depth, names_deep]
    rfl
  · have e : (!PyData.eqv (.list (ts.map .str)) (.list [])) = !ts.isEmpty := by
      cases ts with
      | nil => rfl
      | cons t r => rfl
    rw [e]
    exact q' H2 (Ex.refl H2)
theorem ok_gen {f : Addr} {fd : FuncData} {k : Nat} (F : Fun K "_law_program" "_law_program" sGen f fd) (B : Blt mg) (hD : Has P w K mg base k "_law_draw" ["_law_pot_here", "_law_bound"] spDraw) (hC : Has P w K mg base k "_law_choice" ["_law_pot_here", "_law_options"] spChoice)
    (hR : Has P w K mg base k "_law_read_step" ["_law_pot_here", "_law_targets", "_law_labels", "_law_earlier"] spRead) (hL : Has P w K mg base k "_law_local_step" ["_law_pot_here", "_law_room", "_law_labels", "_law_is_main"] spLoc) : FnG P w K mg base CX0 (k + 1) f fd pGen spGen := by
  obtain ⟨fD, fdD, GD, bD, kD, gD⟩ := hD.ex
  obtain ⟨fC, fdC, GC, bC, kC, gC⟩ := hC.ex
  obtain ⟨fR, fdR, GR, bR, kR, gR⟩ := hR.ex
  obtain ⟨fL, fdL, GL, bL, kL, gL⟩ := hL.ex
  refine okG F scGen (fun vs H Q E h => by obtain ⟨_, _, _, _, _, _, _, rfl, _⟩ := h; rfl) (fun cdv A outer s H vs Q E hq hr h => ?_)
  obtain ⟨p, tg, lb, ts, ls, most, main, rfl, pot, tn, htg, t100, hts, ln, hlb, l1, l100, hls, hm, q⟩ := h
  refine ⟨_, pss_cons (ps_par (i := 5) (j := 6) (by rfl) scGen.nd rfl rfl (by decide) rfl rfl (pa_cons (pe_lst pa_nil) (pa_cons (callG GD hq hr (by rfl) gD kD bD .nil pass0 (pa_cons (pv 0) (pa_cons (pe_op op_add (pv 3) pe_int) pa_nil))) pa_nil)) (by rfl))
    (pss_cons (ps_for PassesOwn.never rfl (pi_range1 (by rfl) B.range (pa_cons (pv 6) pa_nil)) (pg_name (i := 7) scGen.nd rfl (.inl rfl))
      (pss_cons (ps_set (i := 8) scGen.nd rfl (.inl rfl) (callG GD hq hr (by rfl) gD kD bD .nil pass0 (pa_cons (pv 0) (pa_cons pe_int pa_nil))))
      (pss_one (ps_if (PW.pt (pw_and (pt_cmpR (op_neD hr.units) (pv 1) (pe_lst pa_nil) (nomark _)) (pw_and1 (pt_cmpR op_lt (pv 8) pe_int (nomark _)))))
        (pss_one (ps_expr (pe_bm PySem.F.plainAttrs_list PySem.F.slot_list_append PySem.F.type_list_append mt_append (pv 5) (pa_cons (pe_tup (pa_cons pe_str (pa_cons (callG GC hq hr (by rfl) gC kC bC .nil pass0 (pa_cons (pv 0) (pa_cons (pv 1) pa_nil))) pa_nil))) pa_nil))))
        (pss_one (ps_if (PW.pt (pw_and (pt_cmpR (op_neD hr.units) (pv 1) (pe_lst pa_nil) (nomark _)) (pw_and1 (pt_cmpR op_lt (pv 8) pe_int (nomark _)))))
          (pss_one (ps_expr (pe_bm PySem.F.plainAttrs_list PySem.F.slot_list_append PySem.F.type_list_append mt_append (pv 5) (pa_cons (pe_tup (pa_cons pe_str (pa_cons (callG GC hq hr (by rfl) gC kC bC .nil pass0 (pa_cons (pv 0) (pa_cons (pv 1) pa_nil))) (pa_cons (callG GC hq hr (by rfl) gC kC bC .nil pass0 (pa_cons (pv 0) (pa_cons pe_str pa_nil))) pa_nil)))) pa_nil))))
          (pss_one (ps_if (PW.pt (pw_and (pt_cmpR (op_neD hr.units) (pv 1) (pe_lst pa_nil) (nomark _)) (pw_and1 (pt_cmpR op_lt (pv 8) pe_int (nomark _)))))
            (pss_one (ps_expr (pe_bm PySem.F.plainAttrs_list PySem.F.slot_list_append PySem.F.type_list_append mt_append (pv 5) (pa_cons (callG GR hq hr (by rfl) gR kR bR .nil pass0 (pa_cons (pv 0) (pa_cons (pv 1) (pa_cons (pv 2) (pa_cons (pv 5) pa_nil))))) pa_nil))))
            (pss_one (ps_if (PW.pt (pw_and (pt_cmpR op_eq (pv 8) pe_int (nomark _)) (pw_and1 (pt_cmpR op_eq (callG GD hq hr (by rfl) gD kD bD .nil pass0 (pa_cons (pv 0) (pa_cons pe_int pa_nil))) pe_int (nomark _)))))
              (pss_one (ps_expr (pe_bm PySem.F.plainAttrs_list PySem.F.slot_list_append PySem.F.type_list_append mt_append (pv 5) (pa_cons (pe_tup (pa_cons pe_str pa_nil)) pa_nil))))
              (pss_one (ps_expr (pe_bm PySem.F.plainAttrs_list PySem.F.slot_list_append PySem.F.type_list_append mt_append (pv 5) (pa_cons (callG GL hq hr (by rfl) gL kL bL .nil pass0 (pa_cons (pv 0) (pa_cons (pe_op op_sub (pe_op op_sub (pv 6) (pv 7)) pe_int) (pa_cons (pv 2) (pa_cons (pv 4) pa_nil))))) pa_nil))))))))))))))
    (pss_one (ps_ret (pv 5)))), ?_⟩
  refine ⟨Nat.zero_le _, fun D zD => ?_⟩
  have d0 : Drew p H (upd H D (.lst [])) := Drew.of pot (Ex.new zD)
  have Dn : D ≠ p := (Drew.refl pot).neq zD
  have lm : ((most : Int) + 1).natAbs.log2 < 9000 := Nat.lt_of_le_of_lt (Nat.log2_le_self _) (by omega)
  refine ⟨.ref p, rfl, .int (most : Int), rfl, (most : Int), 1, rfl, rfl, p, (most : Int) + 1, rfl, by omega, lm, d0.pot, fun s0 H1 s00 s01 r1 => ⟨.ref D, .int s0, rfl, ?_⟩⟩
  obtain ⟨sz, rfl⟩ := Int.eq_ofNat_of_zero_le s00
  have md0 : Made p ts H H1 D sz 0 [] [] := ⟨d0.trans r1, r1.at Dn upd_same, trivial, rfl, (fun _ h => nomatch h), (fun _ h => nomatch h), fun j us h => by simp at h⟩
  refine ⟨.int (sz : Int), rfl, sz, rfl, by omega, by omega, for_range (lo := 0) (n := (sz : Int).toNat) (fun i σ H' => ∃ y7 y8 ys vss, σ = [some (.ref p), some (.ref tg), some (.ref lb), some (.int (most : Int)), some (.bl main), some (.ref D), some (.int (sz : Int)), y7, y8] ∧ Made p ts H H' D sz i ys vss)
    ⟨none, none, [], [], rfl, md0⟩ (fun i σ H2 hi hP => ?_) (fun σ H2 hP => ?_)⟩
  · obtain ⟨y7, y8, ys, vss, rfl, md2⟩ := hP
    have hi' : i < sz := by omega
    have e0 : ((0 : Int) + (i : Int)) = (i : Int) := Int.zero_add _
    have lv := md2.len
    have ly := md2.st.length
    refine q_asgAny ⟨.ref p, rfl, p, 12, rfl, by decide, by decide +kernel, md2.dr.pot, fun wy H3 w0 w12 r3 => ?_⟩
    have md3 := md2.drew Dn r3
    have szl : ys.length < sizeLine := sz_lt (by omega)
    -- the test of the modules
    have tst : ∀ {H' : Hp} {n : Int}, Made p ts H H' D sz i ys vss → EvT (tAnd (tTest (tOp (rNeD K) (tVar 1) (tLst tNil))) (tTest (tOp (rI0 fun a b => .bl (decide (a < b))) (tVar 8) (tC (.int n))))) [some (.ref p), some (.ref tg), some (.ref lb), some (.int (most : Int)), some (.bl main), some (.ref D), some (.int (sz : Int)), some (.int ((0 : Int) + i)), some (.int wy)] H' (!ts.isEmpty && decide (wy < n)) := fun {H' n} md =>
      et_and (et_test (ev_neNilB rfl (md.dr.at tn htg) hts)) fun _ => et_test (ev_op (ev_var rfl) ev_c rv_I0)
    refine s_if (tst md3) (fun hb0 H4 e4 => ?_) (fun _ H4 e4 => ?_)
    · have md4 := md3.drew Dn (Drew.of md3.dr.pot e4)
      have t1 := t1_of hb0
      refine ⟨.ref D, rfl, .inl ⟨rfl, _, sq_of md4.hD⟩, .ref p, rfl, .ref tg, rfl, p, md4.dr.pot, .inl ⟨tg, _, rfl, tn, md4.dr.at tn htg, by rw [List.length_map]; omega, by rw [List.length_map]; omega, fun v H5 hv r5 => ⟨by show 2 ≤ sizeLine; decide, fun t zt => ?_⟩⟩⟩
      obtain ⟨nm, hnm, rfl⟩ := List.mem_map.mp hv
      have so := st_need (hts nm hnm)
      have r6 := r5.new (o := .tup [.str "need", .str nm]) zt
      exact ⟨D, ys, .ref t, rfl, rfl, r6.at Dn md4.hD, szl, _, _, _, _, rfl, md4.add zD Dn hi' (fresh_drew r5 md4.dr.pot zt) upd_same (stepV_ok so rfl).1 (stepV_ok so rfl).2 (modIn_yes (i := 1) (by decide +kernel) rfl hnm) (before_ne _ so.step (by decide +kernel)) r6⟩
    have md4 := md3.drew Dn (Drew.of md3.dr.pot e4)
    refine s_if (tst md4) (fun hb0 H5 e5 => ?_) (fun _ H5 e5 => ?_)
    · have md5 := md4.drew Dn (Drew.of md4.dr.pot e5)
      have t1 := t1_of hb0
      refine ⟨.ref D, rfl, .inl ⟨rfl, _, sq_of md5.hD⟩, .ref p, rfl, .ref tg, rfl, p, md5.dr.pot, .inl ⟨tg, _, rfl, tn, md5.dr.at tn htg, by rw [List.length_map]; omega, by rw [List.length_map]; omega, fun v H6 hv r6 => ?_⟩⟩
      obtain ⟨nm, hnm, rfl⟩ := List.mem_map.mp hv
      refine ⟨.ref p, rfl, p, r6.pot, .inr ⟨"abcd", rfl, by decide +kernel, by decide +kernel, fun c H7 hc r7 => ⟨by show 3 ≤ sizeLine; decide, fun t zt => ?_⟩⟩⟩
      have v1 := abcd_var c hc
      generalize (⟨#[c]⟩ : Str) = y1 at v1
      have so := st_try (hts nm hnm) v1
      have r8 := (r6.trans r7).new (o := .tup [.str "try", .str nm, .str y1]) zt
      exact ⟨D, ys, .ref t, rfl, rfl, r8.at Dn md5.hD, szl, _, _, _, _, rfl, md5.add zD Dn hi' (fresh_drew (r6.trans r7) md5.dr.pot zt) upd_same (stepV_ok so rfl).1 (stepV_ok so rfl).2 (modIn_yes (i := 1) (by decide +kernel) rfl hnm) (before_ne _ so.step (by decide +kernel)) r8⟩
    have md5 := md4.drew Dn (Drew.of md4.dr.pot e5)
    refine s_if (tst md5) (fun hb0 H6 e6 => ?_) (fun _ H6 e6 => ?_)
    · have md6 := md5.drew Dn (Drew.of md5.dr.pot e6)
      have t1 := t1_of hb0
      exact ⟨.ref D, rfl, .inl ⟨rfl, _, sq_of md6.hD⟩, .ref p, rfl, .ref tg, rfl, .ref lb, rfl, .ref D, rfl, p, tg, lb, D, ts, ls, ys, vss, sz - i - 1, rfl, md6.dr.pot, tn, md6.dr.at tn htg, t1, t100, hts, ln, md6.dr.at ln hlb, l1, l100, hls, Dn, md6.hD, md6.st, by omega, fun us h => (md6.ok us h).1, md6.mi,
        fun t us H7 zt hT sv hn mi bf r7 => ⟨D, ys, .ref t, rfl, rfl, r7.at Dn md6.hD, szl, _, _, _, _, rfl, md6.add zD Dn hi' zt hT sv hn mi bf r7⟩⟩
    have md6 := md5.drew Dn (Drew.of md5.dr.pot e6)
    have ea : ((sz : Int) - ((0 : Int) + (i : Int)) - 1) = ((sz - i - 1 : Nat) : Int) := by omega
    refine et_test (ev_op (ev_var rfl) ev_c (rv_eq rfl)) H6 (Ex.refl H6) _ fun H7 e7 => ?_
    have md7 := md6.drew Dn (Drew.of md6.dr.pot e7)
    by_cases h8 : V.int wy = V.int 8
    · rw [decide_eq_true h8]
      refine ⟨.ref p, rfl, p, 3, rfl, by decide, by decide +kernel, md7.dr.pot, fun c H8 c0 c3 r8 => ⟨rfl, _, rfl, ?_⟩⟩
      have md8 := md7.drew Dn r8
      by_cases hc : V.int c = V.int 0
      · rw [decide_eq_true hc]
        refine ⟨.ref D, rfl, .inl ⟨rfl, _, sq_of md8.hD⟩, by show 1 ≤ sizeLine; decide, fun t zt => ?_⟩
        have so := st_fail
        have r9 := (Drew.refl md8.dr.pot).new (o := .tup [.str "fail"]) zt
        exact ⟨D, ys, .ref t, rfl, rfl, r9.at Dn md8.hD, szl, _, _, _, _, rfl, md8.add zD Dn hi' zt upd_same (stepV_ok so rfl).1 (stepV_ok so rfl).2 (modIn_no (by decide +kernel)) (before_ne _ so.step (by decide +kernel)) r9⟩
      · rw [decide_eq_false hc]
        exact ⟨.ref D, rfl, .inl ⟨rfl, _, sq_of md8.hD⟩, .ref p, rfl, .int (sz : Int), rfl, .int ((0 : Int) + i), rfl, (sz : Int), (0 : Int) + i, rfl, rfl, (sz : Int) - ((0 : Int) + i), 1, rfl, rfl, .ref lb, rfl, .bl main, rfl, p, lb, ls, sz - i - 1, main, by rw [← ea]; rfl, md8.dr.pot, ln, md8.dr.at ln hlb, l1, l100, hls, by omega,
          fun t us H9 zt hT sv hn mi bf r9 => ⟨D, ys, .ref t, rfl, rfl, r9.at Dn md8.hD, szl, _, _, _, _, rfl, md8.add zD Dn hi' zt hT sv hn (mi.mono fun _ h => nomatch h) bf r9⟩⟩
    · rw [decide_eq_false h8]
      exact ⟨.ref D, rfl, .inl ⟨rfl, _, sq_of md7.hD⟩, .ref p, rfl, .int (sz : Int), rfl, .int ((0 : Int) + i), rfl, (sz : Int), (0 : Int) + i, rfl, rfl, (sz : Int) - ((0 : Int) + i), 1, rfl, rfl, .ref lb, rfl, .bl main, rfl, p, lb, ls, sz - i - 1, main, by rw [← ea]; rfl, md7.dr.pot, ln, md7.dr.at ln hlb, l1, l100, hls, by omega,
        fun t us H9 zt hT sv hn mi bf r9 => ⟨D, ys, .ref t, rfl, rfl, r9.at Dn md7.hD, szl, _, _, _, _, rfl, md7.add zD Dn hi' zt hT sv hn (mi.mono fun _ h => nomatch h) bf r9⟩⟩
  · obtain ⟨y7, y8, ys, vss, rfl, md⟩ := hP
    have es : (sz : Int).toNat = sz := by omega
    rw [es] at md
    exact ⟨.ref D, rfl, q D ys vss sz H2 zD (by omega) md⟩
end
end Cr
/-! data that are drawn: expressions by the data that they give, beside a pot -/
namespace Cr
open PySem PySem.Spec PyProof.Rows L2 Evl
def EvP (p : Addr) (te : TE) (σ : L2.St) (H0 : Hp) (S : PyData → Prop) : Prop := ∀ H, Drew p H0 H → ∀ Q : VK, (∀ v d H2, Drew p H H2 → S d → Dt (wo p H2) v d → Q v H2) → te σ H Q
def EvPA (p : Addr) (ta : TA) (σ : L2.St) (H0 : Hp) (S : List PyData → Prop) : Prop := ∀ H, Drew p H0 H → ∀ Q : List V → Hp → Prop, (∀ vs ds H2, Drew p H H2 → S ds → DtAll (wo p H2) vs ds → Q vs H2) → ta σ H Q
theorem Drew.dt {p : Addr} {H H' : Hp} {v : V} {d : PyData} (r : Drew p H H') (h : Dt (wo p H) v d) : Dt (wo p H') v d := Dt.ex r.ex h
theorem dt_wo {p : Addr} {H : Hp} {v : V} {d : PyData} (h : Dt (wo p H) v d) : Dt H v d := Dt.ex (wo_ex p H) h
/-- a new object beside the pot -/
theorem Drew.put {p l : Addr} {H H' : Hp} {o : HO} (r : Drew p H H') (z : H' l = none) : Drew p H (upd H' l o) ∧ l ≠ p ∧ wo p (upd H' l o) l = some o := by
  have n := r.neq z
  exact ⟨r.new z, n, by rw [wo_ne n, upd_same]⟩
section
variable {p : Addr} {te ta tb : TE} {tA : TA} {σ : L2.St} {H0 : Hp} {S S' T : PyData → Prop} {SA : List PyData → Prop} {i : Nat} {E : XK}
theorem evp_mono (h : EvP p te σ H0 S) (m : ∀ d, S d → S' d) : EvP p te σ H0 S' := fun H r0 Q q => h H r0 Q fun v d H2 r s => q v d H2 r (m d s)
theorem evp_of {v : V} {d : PyData} (h : ∀ H, Ev te σ H v) (hd : ∀ H, Dt H v d) : EvP p te σ H0 (· = d) := fun H r0 Q q => h H H (Ex.refl H) Q fun H2 e => q v d H2 (Drew.of r0.pot e) rfl (hd _)
theorem evp_str {x : Str} : EvP p (tC (.str x)) σ H0 (· = .str x) := evp_of (fun _ => ev_c) fun _ => .str x
theorem evp_var {v : V} {d : PyData} (h : σ[i]? = some (some v)) (hd : Dt (wo p H0) v d) : EvP p (tVar i) σ H0 (· = d) := fun H r0 Q q => ⟨v, h, q v d H (Drew.refl r0.pot) rfl (r0.dt hd)⟩
theorem evpa_nil : EvPA p tNil σ H0 (· = []) := fun H r0 Q q => q [] [] H (Drew.refl r0.pot) rfl .nil
theorem evp_lst (h : EvPA p tA σ H0 SA) (hl : ∀ ds, SA ds → ds.length ≤ 1000) : EvP p (tLst tA) σ H0 (fun d => ∃ ds, d = .list ds ∧ SA ds) := fun H r0 Q q =>
  h H r0 _ fun vs ds H2 r s hv => ⟨Nat.le_trans (Nat.le_of_eq (dtAll_len hv)) (Nat.le_trans (hl ds s) (by decide)), fun l zl => by
    obtain ⟨r2, n, w⟩ := r.put (o := .lst vs) zl
    exact q (.ref l) (.list ds) _ r2 ⟨ds, rfl, s⟩ (.lst w (DtAll.ex (Ex.wo (Ex.new zl)) hv))⟩
theorem evp_tup (h : EvPA p tA σ H0 SA) (hl : ∀ ds, SA ds → ds.length ≤ 1000) : EvP p (tTup tA) σ H0 (fun d => ∃ ds, d = .tuple ds ∧ SA ds) := fun H r0 Q q =>
  h H r0 _ fun vs ds H2 r s hv => ⟨Nat.le_trans (Nat.le_of_eq (dtAll_len hv)) (Nat.le_trans (hl ds s) (by decide)), fun l zl => by
    obtain ⟨r2, n, w⟩ := r.put (o := .tup vs) zl
    exact q (.ref l) (.tuple ds) _ r2 ⟨ds, rfl, s⟩ (.tup w (DtAll.ex (Ex.wo (Ex.new zl)) hv))⟩
/-- lists and tuples of written items -/
def EvPL (p : Addr) (ta : TA) (σ : L2.St) (H0 : Hp) (ds : List PyData) : Prop := EvPA p ta σ H0 (· = ds)
theorem evpl_nil : EvPL p tNil σ H0 [] := evpa_nil
theorem evpl_cons {d : PyData} {ds : List PyData} (h1 : EvP p te σ H0 (· = d)) (h2 : EvPL p tA σ H0 ds) : EvPL p (tCons te tA) σ H0 (d :: ds) := fun H r0 Q q =>
  h1 H r0 _ fun v d' H2 r2 s hv => h2 H2 (r0.trans r2) _ fun vs es H3 r3 t hvs => by
    subst s t
    exact q _ _ H3 (r2.trans r3) rfl (.cons (r3.dt hv) hvs)
theorem evp_lstL {ds : List PyData} (h : EvPL p tA σ H0 ds) (hl : ds.length ≤ 1000) : EvP p (tLst tA) σ H0 (· = .list ds) := evp_mono (evp_lst h fun es e => by subst e; exact hl) fun d ⟨es, e1, e2⟩ => by subst e2; exact e1
theorem evp_tupL {ds : List PyData} (h : EvPL p tA σ H0 ds) (hl : ds.length ≤ 1000) : EvP p (tTup tA) σ H0 (· = .tuple ds) := evp_mono (evp_tup h fun es e => by subst e; exact hl) fun d ⟨es, e1, e2⟩ => by subst e2; exact e1
/-! ### draws -/
theorem evp_choice {SA : List PyData → Prop} (h0 : σ[i]? = some (some (.ref p))) (h : EvP p tb σ H0 (fun d => ∃ ds, d = .list ds ∧ SA ds)) (hl : ∀ ds, SA ds → 0 < ds.length ∧ ds.length ≤ 1000) :
    EvP p (tCall spChoice [] E (tCons (tVar i) (tCons tb tNil))) σ H0 (fun d => ∃ ds, SA ds ∧ d ∈ ds) := fun H r0 Q q =>
  ⟨.ref p, h0, h H r0 _ fun v d H2 r2 ⟨ds, ed, s⟩ hv => by
    subst ed
    obtain ⟨a, xs, rfl, ha, hx⟩ := dt_lst hv
    obtain ⟨n, ha'⟩ := wo_some ha
    have l1 := dtAll_len hx
    have l2 := hl ds s
    refine ⟨p, r2.pot, .inl ⟨a, xs, rfl, n, ha', by omega, by omega, fun v H3 hv r3 => ?_⟩⟩
    obtain ⟨d, hd, hdt⟩ := dtAll_mem' hx hv
    exact q v d H3 (r2.trans r3) ⟨ds, s, hd⟩ (r3.dt hdt)⟩
/-! ### statements -/
theorem q_asgP {D : Ends} {tz : TS} {j : Nat} (h : EvP p te σ H0 S) (pot : Pot H0 p) (k : ∀ v d H1, Drew p H0 H1 → S d → Dt (wo p H1) v d → tz D (σ.set j (some v)) H1) : tSeq (tAsg te (gName j)) tz D σ H0 := h H0 (Drew.refl pot) _ k
end
/-! ### n == j, n a number in a variable -/
end Cr
/-! the law's own order: a list mixed -/
namespace Cr
open PySem PySem.Spec PyProof.Rows L2 Evl
abbrev sMixed : Stmt := topS 36
abbrev nMixed : List Str := ["_law_pot_here", "_law_options", "_law_rest", "_law_found"]
theorem scMixed : FnScope nMixed ["_law_pot_here", "_law_options"] (defScope sMixed) := ⟨rfl, rfl, rfl, by decide +kernel, rfl, by decide +kernel, by decide +kernel⟩
def spMixed : Sp := fun vs H Q _ => ∃ (p lo : Addr) (xs : List V) (ds : List PyData), vs = [.ref p, .ref lo] ∧ Pot H p ∧ lo ≠ p ∧ H lo = some (.lst xs) ∧ DtAll (wo p H) xs ds ∧ ds.length ≤ 1000 ∧ (∀ es, (∀ e ∈ es, e ∈ ds) → SeqAt.shaped (.list es) = true) ∧
  ∀ (l : Addr) (bs : List (V × PyData)) (H' : Hp), H l = none → Drew p H H' → H' l = some (.lst (bs.map (·.1))) → bs.Perm (xs.zip ds) → Q (.ref l) H'
theorem erase_perm {α : Type} : ∀ {l : List α} {k : Nat} {b : α}, l[k]? = some b → (b :: l.eraseIdx k).Perm l
  | a :: r, 0, b, h => by cases h; exact List.Perm.refl _
  | a :: r, k + 1, b, h => (List.Perm.swap a b _).trans (List.Perm.cons a (erase_perm (l := r) h))
theorem map_erase {α β : Type} (f : α → β) : ∀ (l : List α) (k : Nat), (l.map f).eraseIdx k = (l.eraseIdx k).map f
  | [], k => by simp
  | a :: r, 0 => rfl
  | a :: r, k + 1 => by
    show f a :: (r.map f).eraseIdx k = f a :: (r.eraseIdx k).map f
    rw [map_erase f r k]
theorem eqv_nil (d : PyData) (ds : List PyData) : PyData.eqv (.list (d :: ds)) (.list []) = false := by simp [PyData.eqv, PyData.eqvAll]
section
variable {P : Program} {w : World} {K : PySem.W.Frag} {mg : Str → Option Value} {base : Heap}
theorem ok_mixed {f : Addr} {fd : FuncData} {k : Nat} (F : Fun K "_law_mixed" "_law_mixed" sMixed f fd) (B : Blt mg) (h1 : Has P w K mg base k "_law_draw" ["_law_pot_here", "_law_bound"] spDraw) : FnG P w K mg base CX0 (k + 1) f fd ["_law_pot_here", "_law_options"] spMixed := by
  obtain ⟨f1, d1, G1, b1, k1, g1⟩ := h1.ex
  refine okG F scMixed (fun vs H Q E h => by obtain ⟨_, _, _, _, rfl, _⟩ := h; rfl) (fun cdv A outer s H vs Q E hq hr h => ?_)
  obtain ⟨p, lo, xs, ds, rfl, pot, nlo, hlo, hxs, lds, sha, q⟩ := h
  refine ⟨_, pss_cons (ps_par (i := 2) (j := 3) (by rfl) scMixed.nd rfl rfl (by decide) rfl rfl (pa_cons (pe_callTy call_list_of (by rfl) B.list bList (pa_cons (pv 1) pa_nil)) (pa_cons (pe_lst pa_nil) pa_nil)) (by rfl))
    (pss_cut (ps_while PassesOwn.never (pt_cmpR (op_neDt hr.units) (pv 2) (pe_lst pa_nil) (nomark _))
      (pss_one (ps_expr (pe_bm PySem.F.plainAttrs_list PySem.F.slot_list_append PySem.F.type_list_append mt_append (pv 3) (pa_cons (pe_bm PySem.F.plainAttrs_list PySem.F.slot_list_pop PySem.F.type_list_pop mt_popAt (pv 2) (pa_cons (callG G1 hq hr (by rfl) g1 k1 b1 .nil pass0 (pa_cons (pv 0) (pa_cons (pe_callB call_len_seq (by rfl) B.len bLen (pa_cons (pv 2) pa_nil)) pa_nil))) pa_nil)) pa_nil)))))
    (pss_one (ps_ret (pv 3)))), ?_⟩
  obtain ⟨z1, z2, z3⟩ := dtAll_zip hxs
  have lx := dtAll_len hxs
  refine ⟨.ref lo, rfl, lo, xs, rfl, .inl (sq_of hlo), fun lr zr => ⟨by show 0 ≤ sizeLine; decide, fun lf zf => ⟨.ref lr, .ref lf, rfl, ?_⟩⟩⟩
  dsimp only
  have e1 := Ex.new (o := .lst xs) zr
  have e2 := Ex.new (o := .lst []) zf
  have r2 : Drew p H (upd (upd H lr (.lst xs)) lf (.lst [])) := Drew.of pot (e1.trans e2)
  have zf0 : H lf = none := fresh_back e1 zf
  have hr2 : (upd (upd H lr (.lst xs)) lf (.lst [])) lr = some (.lst xs) := e2 _ _ upd_same
  have hf2 : (upd (upd H lr (.lst xs)) lf (.lst [])) lf = some (.lst []) := upd_same
  have nrf : lr ≠ lf := ne_of_none upd_same zf
  have nrp : lr ≠ p := (Drew.refl pot).neq zr
  have nfp : lf ≠ p := (Drew.refl pot).neq zf0
  generalize upd (upd H lr (.lst xs)) lf (.lst []) = H2 at r2 hr2 hf2
  show tCut _ _ _ [some (.ref p), some (.ref lo), some (.ref lr), some (.ref lf)] H2
  refine q_cut (M := fun σ H' => σ = [some (.ref p), some (.ref lo), some (.ref lr), some (.ref lf)] ∧ ∃ bs : List (V × PyData), bs.Perm (xs.zip ds) ∧ H' lf = some (.lst (bs.map (·.1))) ∧ Drew p H H') ?_ ?_
  rotate_left
  · rintro σ H3 ⟨rfl, bs, pm, hf, r3⟩
    exact ⟨.ref lf, rfl, q lf bs H3 zf0 r3 hf pm⟩
  refine s_while (fun m σ H' => σ = [some (.ref p), some (.ref lo), some (.ref lr), some (.ref lf)] ∧ ∃ fb rb : List (V × PyData), (fb ++ rb).Perm (xs.zip ds) ∧ H' lf = some (.lst (fb.map (·.1))) ∧ H' lr = some (.lst (rb.map (·.1))) ∧ Drew p H H' ∧ rb.length = m) xs.length ⟨rfl, [], xs.zip ds, List.Perm.refl _, hf2, by rw [z3]; exact hr2, r2, by have := congrArg List.length z3; rw [List.length_map] at this; exact this⟩ ?_
  rintro m σ H3 ⟨rfl, fb, rb, pm, hf, hrb, r3, hm⟩
  have mem : ∀ b ∈ rb, b ∈ xs.zip ds := fun b hb => pm.mem_iff.mp (List.mem_append_right _ hb)
  have drb : DtAll (wo p H) (rb.map (·.1)) (rb.map (·.2)) := dtAll_of fun b hb => z1 b (mem b hb)
  have drb3 : Dt H3 (.ref lr) (.list (rb.map (·.2))) := .lst hrb (DtAll.ex (wo_ex _ _) (DtAll.ex r3.ex drb))
  have dsm : ∀ e ∈ rb.map (·.2), e ∈ ds := fun e he => by
    obtain ⟨b, hb, rfl⟩ := List.mem_map.mp he
    have := List.mem_map_of_mem (f := (·.2)) (mem b hb)
    rw [z2] at this
    exact this
  have lpm := pm.length_eq
  rw [List.length_append, List.length_zip] at lpm
  refine ⟨!PyData.eqv (.list (rb.map (·.2))) (.list []), et_neD (evd_var rfl drb3) (evd_lst evda_nil (by show 0 ≤ 1000; decide)) (sha _ dsm) (sha [] (by simp)), fun hb H4 e4 => ?_, fun hb H4 e4 => ?_⟩
  rotate_left
  · have n0 : rb = [] := by
      cases rb with
      | nil => rfl
      | cons b r => rw [List.map_cons, eqv_nil] at hb; exact absurd hb (by decide)
    subst n0
    rw [List.append_nil] at pm
    exact ⟨rfl, fb, pm, e4 _ _ hf, r3.trans (Drew.of r3.pot e4)⟩
  have rp : 0 < rb.length := by
    cases rb with
    | nil => exact absurd hb (by simp [PyData.eqv, PyData.eqvAll])
    | cons b r => exact Nat.succ_pos _
  have r4 := r3.trans (Drew.of r3.pot e4)
  refine ⟨fun σ H' => σ = [some (.ref p), some (.ref lo), some (.ref lr), some (.ref lf)] ∧ ∃ fb rb' : List (V × PyData), (fb ++ rb').Perm (xs.zip ds) ∧ H' lf = some (.lst (fb.map (·.1))) ∧ H' lr = some (.lst (rb'.map (·.1))) ∧ Drew p H H' ∧ rb'.length < rb.length, fun σ2 H5 ⟨e, fb', rb', a1, a2, a3, a4, a5⟩ => ⟨rb'.length, by omega, e, fb', rb', a1, a2, a3, a4, rfl⟩, ?_⟩
  refine ⟨.ref lf, rfl, .inl ⟨rfl, _, sq_of (e4 _ _ hf)⟩, .ref lr, rfl, .inl ⟨rfl, _, sq_of (e4 _ _ hrb)⟩, .ref p, rfl, .ref lr, rfl, lr, _, rfl, .inl (sq_of (e4 _ _ hrb)), p, _, rfl, ?_, ?_, r4.pot, fun c H5 c0 c1 r5 => ?_⟩
  · rw [List.length_map]; omega
  · rw [List.length_map]
    refine Nat.lt_of_le_of_lt (Nat.log2_le_self _) ?_
    omega
  rw [List.length_map] at c1
  have cl : c.toNat < rb.length := by omega
  have r45 := r4.trans r5
  have hrb5 := r5.at nrp (e4 _ _ hrb)
  have hf5 := r5.at nfp (e4 _ _ hf)
  refine ⟨lr, rb.map (·.1), c, c.toNat, rb[c.toNat].1, rfl, rfl, hrb5, by omega, by omega, ?_, by rw [List.getElem?_map, List.getElem?_eq_getElem cl]; rfl, ?_⟩
  · exact seqIndex_of c0 (by rw [List.length_map]; omega)
  have hf6 : (upd H5 lr (.lst ((rb.map (·.1)).eraseIdx c.toNat))) lf = some (.lst (fb.map (·.1))) := by rw [upd_ne nrf.symm]; exact hf5
  refine ⟨lf, fb.map (·.1), rb[c.toNat].1, rfl, rfl, hf6, sz_lt (by rw [List.length_map]; omega), rfl, fb ++ [rb[c.toNat]], rb.eraseIdx c.toNat, ?_, ?_, ?_, ?_, ?_⟩
  · refine List.Perm.trans ?_ pm
    rw [List.append_assoc]
    exact List.Perm.append_left _ (erase_perm (List.getElem?_eq_getElem cl))
  · rw [upd_same, List.map_append]; rfl
  · rw [upd_ne nrf, upd_same, map_erase]
  · exact (r45.mut zr nrp).mut zf0 nfp
  · rw [List.length_eraseIdx_of_lt cl]; omega
end
end Cr
/-! _law_modules: the dict of a library, drawn -/
namespace Cr
open PySem PySem.Spec PyProof.Rows L2 Evl
abbrev sLMo : Stmt := topS 41
abbrev pLMo : List Str := ["_law_pot_here", "_law_most", "_law_longest", "_law_is_acyclic"]
abbrev nLMo : List Str := ["_law_pot_here", "_law_most", "_law_longest", "_law_is_acyclic", "_law_names", "_law_order", "_law_labels", "_law_found", "_law_name", "_law_later"]
theorem scLMo : FnScope nLMo pLMo (defScope sLMo) := ⟨rfl, rfl, rfl, by decide +kernel, rfl, by decide +kernel, by decide +kernel⟩
/-- needs go onward in this order -/
def Onward (ord : List Str) (L : Lib) : Prop := ord.Perm (L.map (·.1)) ∧ ∀ r ∈ L, ∀ ds ∈ r.2, okMod (ord.drop (ord.idxOf r.1 + 1)) ds = true
def spLMo : Sp := fun vs H Q _ => ∃ (p : Addr) (most longest : Nat) (acyc : Bool), vs = [.ref p, .int (most : Int), .int (longest : Int), .bl acyc] ∧ Pot H p ∧ 1 ≤ most ∧ most ≤ 40 ∧ longest ≤ 30 ∧
  ∀ (t D lb : Addr) (ls : List Str) (L : Lib) (H' : Hp), H t = none → Drew p H H' → H' t = some (.tup [.ref D, .ref lb]) → H D = none → D ≠ p → Dt (wo p H') (.ref D) (libD L) → LibOk L → L.length ≤ most → (∀ r ∈ L, r.2.length ≤ longest) → (acyc = true → ∃ ord, Onward ord L) →
    lb ≠ p → H' lb = some (.lst (ls.map V.str)) → ls.length = 2 → (∀ x ∈ ls, isNameS x = true) → Q (.ref t) H'
theorem perm_strs {xs : List V} {ns : List Str} (h : xs.Perm (ns.map V.str)) : ∃ os : List Str, xs = os.map V.str ∧ os.Perm ns := by
  let g : V → Str := fun v => match v with
    | .str x => x
    | _ => ""
  refine ⟨xs.map g, ?_, ?_⟩
  · rw [List.map_map]
    refine ((List.map_congr_left (g := id) fun v hv => ?_).trans (List.map_id _)).symm
    obtain ⟨x, _, rfl⟩ := List.mem_map.mp (h.mem_iff.mp hv)
    rfl
  · have z := h.map g
    rw [List.map_map] at z
    exact z.trans (List.Perm.of_eq ((List.map_congr_left (g := id) fun x _ => rfl).trans (List.map_id _)))
theorem fl_intM {us : List V} {i : Int} (h : PyData.int i ∈ us.map flD) : V.int i ∈ us := by
  obtain ⟨v, hv, e⟩ := List.mem_map.mp h
  cases v with
  | int j =>
    have e : PyData.int j = .int i := e
    cases e
    exact hv
  | _ => exact nomatch e
def progV (vss : List (List V)) : Prog := vss.map (·.map flD)
theorem progV_D (vss : List (List V)) : (progV vss).map PyData.tuple = stepsD vss := by
  unfold progV stepsD
  rw [List.map_map]
  rfl
theorem made_prog {p : Addr} {ts : List Str} {H H' : Hp} {D : Addr} {sz : Nat} {ys : List V} {vss : List (List V)} (h30 : sz ≤ 30) (md : Made p ts H H' D sz sz ys vss) (Dn : D ≠ p) : ProgV (progV vss) ∧ (∀ ds ∈ progV vss, okMod ts ds = true) ∧ (progV vss).length ≤ sz ∧ Dt (wo p H') (.ref D) (progD (progV vss)) := by
  have l : (progV vss).length = sz := by unfold progV; rw [List.length_map, md.len]
  have mem : ∀ ds ∈ progV vss, ∃ us ∈ vss, ds = us.map flD := fun ds h => by
    obtain ⟨us, hu, e⟩ := List.mem_map.mp h
    exact ⟨us, hu, e.symm⟩
  refine ⟨⟨by omega, fun ds h => ?_, fun j ds h => ?_, fun ds h i hi => ?_⟩, fun ds h => ?_, by omega, ?_⟩
  · obtain ⟨us, hu, rfl⟩ := mem ds h
    exact (md.ok us hu).1.step
  · unfold progV at h
    rw [List.getElem?_map] at h
    cases hv : vss[j]? with
    | none => rw [hv] at h; cases h
    | some us =>
      rw [hv] at h
      cases h
      rw [l]
      exact md.bf j us hv
  · obtain ⟨us, hu, rfl⟩ := mem ds h
    exact (md.ok us hu).2 i (fl_intM hi)
  · obtain ⟨us, hu, rfl⟩ := mem ds h
    unfold okMod
    cases hm : modO (.tuple (us.map flD)) with
    | none => rfl
    | some x => exact decide_eq_true (md.mi us hu x hm)
  · obtain ⟨i, j, hp, _⟩ := md.dr.pot
    have tp : Tps H' (wo p H') := fun a xs h => by
      rw [wo_ne (fun e => by rw [e, hp] at h; cases h)]
      exact h
    refine .lst (by rw [wo_ne Dn]; exact md.hD) ?_
    rw [progV_D]
    exact Steps.dt (md.st.tps tp) fun us hu => stepV_flat (md.ok us hu).1
theorem okMod_mono {ns ns' : List Str} (h : ∀ x ∈ ns, x ∈ ns') {ds : List PyData} (o : okMod ns ds = true) : okMod ns' ds = true := by
  unfold okMod at o ⊢
  cases hm : modO (.tuple ds) with
  | none => rfl
  | some x =>
    rw [hm] at o
    exact decide_eq_true (h x (of_decide_eq_true o))
theorem idx_of {os : List Str} {n : Str} (h : n ∈ os) : os[os.idxOf n]? = some n := by
  have l := List.idxOf_lt_length_of_mem h
  rw [List.getElem?_eq_getElem l, List.getElem_idxOf]
theorem strs_sha {es : List PyData} {ns : List Str} (hn : ∀ x ∈ ns, isNameS x = true) (h : ∀ e ∈ es, e ∈ ns.map PyData.str) : SeqAt.shaped (.list es) = true := by
  have go : ∀ es : List PyData, (∀ e ∈ es, e ∈ ns.map PyData.str) → PyData.canLayAll0 es = true ∧ PyData.depthAll es = 0 := by
    intro es
    induction es with
    | nil => exact fun _ => ⟨rfl, rfl⟩
    | cons e r ih =>
      intro h
      obtain ⟨a, b⟩ := ih fun z hz => h z (List.mem_cons_of_mem _ hz)
      obtain ⟨x, hx, rfl⟩ := List.mem_map.mp (h e List.mem_cons_self)
      rw [PyData.canLayAll0, PyData.depthAll, a, b, PyData.canLay0, name_strOk (hn x hx)]
      exact ⟨rfl, rfl⟩
  obtain ⟨a, b⟩ := go es h
  unfold SeqAt.shaped
  rw [PyData.canLay0, a, PyData.depth, b]
  rfl
section
variable {P : Program} {w : World} {K : PySem.W.Frag} {mg : Str → Option Value} {base : Heap}
theorem ok_lmo {f : Addr} {fd : FuncData} {k : Nat} (F : Fun K "_law_modules" "_law_modules" sLMo f fd) (B : Blt mg) (h1 : Has P w K mg base k "_law_draw" ["_law_pot_here", "_law_bound"] spDraw) (h2 : Has P w K mg base k "_law_words" ["_law_pot_here", "_law_number"] spWords)
    (h3 : Has P w K mg base k "_law_mixed" ["_law_pot_here", "_law_options"] spMixed) (h4 : Has P w K mg base k "_law_program" pGen spGen) : FnG P w K mg base CX0 (k + 1) f fd pLMo spLMo := by
  obtain ⟨f1, d1, G1, b1, k1, g1⟩ := h1.ex
  obtain ⟨f2, d2, G2, b2, k2, g2⟩ := h2.ex
  obtain ⟨f3, d3, G3, b3, k3, g3⟩ := h3.ex
  obtain ⟨f4, d4, G4, b4, k4, g4⟩ := h4.ex
  refine okG F scLMo (fun vs H Q E h => by obtain ⟨_, _, _, _, rfl, _⟩ := h; rfl) (fun cdv A outer s H vs Q E hq hr h => ?_)
  obtain ⟨p, most, longest, acyc, rfl, pot, m1, m40, l30, q⟩ := h
  have hu := hu_of hr
  refine ⟨_, pss_cons (ps_set (i := 4) scLMo.nd rfl (.inl rfl) (callG (E := E0) G2 hq hr (by rfl) g2 k2 b2 .nil pass0 (pa_cons (pv 0) (pa_cons (pe_op op_add pe_int (callG (E := E0) G1 hq hr (by rfl) g1 k1 b1 .nil pass0 (pa_cons (pv 0) (pa_cons (pv 1) pa_nil)))) pa_nil))))
    (pss_cons (ps_par (i := 5) (j := 6) (by rfl) scLMo.nd rfl rfl (by decide) rfl rfl (pa_cons (callG (E := E0) G3 hq hr (by rfl) g3 k3 b3 .nil pass0 (pa_cons (pv 0) (pa_cons (pv 4) pa_nil))) (pa_cons (callG (E := E0) G2 hq hr (by rfl) g2 k2 b2 .nil pass0 (pa_cons (pv 0) (pa_cons pe_int pa_nil))) pa_nil)) (by rfl))
    (pss_cons (ps_set (i := 7) scLMo.nd rfl (.inl rfl) pe_dnewK)
    (pss_cons (ps_for PassesOwn.never rfl (pi_list (pv 4)) (pg_name (i := 8) scLMo.nd rfl (.inl rfl))
      (pss_cons (ps_set (i := 9) scLMo.nd rfl (.inl rfl) (pe_slice sl_list (pv 5) (po_some (pe_op op_add (pe_bm PySem.F.plainAttrs_list PySem.F.slot_list_index PySem.F.type_list_index mt_index (pv 5) (pa_cons (pv 8) pa_nil)) pe_int)) po_none))
      (pss_one (ps_dput hu (pv 7) (pv 8) (callG (E := E0) G4 hq hr (by rfl) g4 k4 b4 .nil pass0 (pa_cons (pv 0) (pa_cons (pe_ifExp (pt_val (pv 3)) (pv 9) (pv 4)) (pa_cons (pv 6) (pa_cons (pv 2) (pa_cons pe_bl pa_nil)))))) rfl))))
    (pss_one (ps_ret (pe_tup (pa_cons (pv 7) (pa_cons (pv 6) pa_nil)))))))), ?_⟩
  have lgn : ∀ {n : Nat}, n ≤ 1000 → (n : Int).natAbs.log2 < 9000 := fun {n} h => Nat.lt_of_le_of_lt (Nat.log2_le_self _) (by omega)
  refine q_asgAny ⟨.ref p, rfl, .ref p, rfl, .int (most : Int), rfl, p, (most : Int), rfl, by omega, lgn (by omega), pot, fun c H1 c0 c1 r1 => ⟨1, c, rfl, rfl, p, (1 + c).toNat, ?_, r1.pot, by omega, fun nl ns H2 znl hnl lns ndn hns r2 => ?_⟩⟩
  · have e : (((1 + c).toNat : Nat) : Int) = 1 + c := by omega
    rw [e]; rfl
  have r12 := r1.trans r2
  have nlp : nl ≠ p := (Drew.refl r1.pot).neq znl
  show tSeq _ _ _ [some (.ref p), some (.int (most : Int)), some (.int (longest : Int)), some (.bl acyc), some (.ref nl), none, none, none, none, none] H2
  refine ⟨.ref p, rfl, .ref nl, rfl, p, nl, ns.map V.str, ns.map PyData.str, rfl, r12.pot, nlp, hnl, dts_strs ns, by rw [List.length_map]; omega, fun es he => strs_sha hns he, fun ol bs H3 zol r3 hol pm => ?_⟩
  have r13 := r12.trans r3
  obtain ⟨os, eos, pos⟩ : ∃ os : List Str, bs.map (·.1) = os.map V.str ∧ os.Perm ns := by
    refine perm_strs ?_
    have z := pm.map (·.1)
    have e : (ns.map V.str |>.zip (ns.map PyData.str)).map (·.1) = ns.map V.str := List.map_fst_zip (by rw [List.length_map, List.length_map]; exact Nat.le_refl _)
    rw [e] at z
    exact z
  rw [eos] at hol
  have olp : ol ≠ p := (Drew.refl r12.pot).neq zol
  have hnl3 := r3.at nlp hnl
  refine ⟨.ref p, rfl, p, 2, rfl, r13.pot, by decide, fun lb ls H4 zlb hlb lls ndl hls r4 => ⟨.ref ol, .ref lb, rfl, ?_⟩⟩
  have r14 := r13.trans r4
  have lbp : lb ≠ p := (Drew.refl r13.pot).neq zlb
  have hnl4 := r4.at nlp hnl3
  have hol4 := r4.at olp hol
  dsimp only
  show tSeq _ _ _ [some (.ref p), some (.int (most : Int)), some (.int (longest : Int)), some (.bl acyc), some (.ref nl), some (.ref ol), some (.ref lb), none, none, none] H4
  refine q_asgAny ?_
  intro D zD
  have Dp : D ≠ p := (Drew.refl r14.pot).neq zD
  have zD0 : H D = none := by
    cases hh : H D with
    | none => rfl
    | some o => exact absurd (r14.at Dp hh) (by rw [zD]; exact fun z => nomatch z)
  have r15 : Drew p H (upd H4 D (.dK [])) := r14.new zD
  have nn : ∀ {c : Addr} {o : HO}, H4 c = some o → c ≠ D := fun h => ne_of_none h zD
  have hnl5 : (upd H4 D (.dK [])) nl = some (.lst (ns.map V.str)) := by rw [upd_ne (nn hnl4)]; exact hnl4
  have hol5 : (upd H4 D (.dK [])) ol = some (.lst (os.map V.str)) := by rw [upd_ne (nn hol4)]; exact hol4
  have hlb5 : (upd H4 D (.dK [])) lb = some (.lst (ls.map V.str)) := by rw [upd_ne (nn hlb)]; exact hlb
  have hD5 : (upd H4 D (.dK [])) D = some (.dK []) := upd_same
  have nlD := nn hnl4
  have olD := nn hol4
  have lbD := nn hlb
  generalize upd H4 D (.dK []) = H5 at r15 hnl5 hol5 hlb5 hD5 ⊢
  show tSeq _ _ _ [some (.ref p), some (.int (most : Int)), some (.int (longest : Int)), some (.bl acyc), some (.ref nl), some (.ref ol), some (.ref lb), some (.ref D), none, none] H5
  have lV : (ns.map V.str).length = ns.length := List.length_map ..
  refine ⟨.ref nl, rfl, nl, rfl, ⟨_, sq_of hnl5⟩, for_list (fun i σ H' => (∃ y8 y9, σ = [some (.ref p), some (.int (most : Int)), some (.int (longest : Int)), some (.bl acyc), some (.ref nl), some (.ref ol), some (.ref lb), some (.ref D), y8, y9]) ∧ Drew p H H' ∧ H' nl = some (.lst (ns.map V.str)) ∧ H' ol = some (.lst (os.map V.str)) ∧ H' lb = some (.lst (ls.map V.str)) ∧
      ∃ kv L, H' D = some (.dK kv) ∧ LKv (wo p H') kv L ∧ L.map (·.1) = ns.take i ∧ (∀ r ∈ L, ProgV r.2 ∧ r.2.length ≤ longest ∧ (∀ ds ∈ r.2, okMod ns ds = true) ∧ (acyc = true → ∀ ds ∈ r.2, okMod (os.drop (os.idxOf r.1 + 1)) ds = true)))
    ⟨⟨_, _, rfl⟩, r15, hnl5, hol5, hlb5, [], [], hD5, .nil, rfl, fun r hr => nomatch hr⟩ (fun i σ H' _ h => sq_of h.2.2.1) (fun i x σ H6 hi hP => ?_) (fun σ H6 hP => ?_)⟩
  · obtain ⟨⟨y8, y9, rfl⟩, r6, hnl6, hol6, hlb6, kv, L, hD6, hkv, hnm, hall⟩ := hP
    have hil : i < ns.length := by
      have := (List.getElem?_eq_some_iff.mp hi).1
      omega
    rw [List.getElem?_map, List.getElem?_eq_getElem hil] at hi
    cases hi
    obtain ⟨n, hn⟩ : ∃ n, ns[i] = n := ⟨_, rfl⟩
    rw [hn]
    have hmem : n ∈ ns := by rw [← hn]; exact List.getElem_mem hil
    have homem : n ∈ os := pos.mem_iff.mpr hmem
    have lL : L.length = i := by
      have z := congrArg List.length hnm
      rw [List.length_map, List.length_take] at z
      omega
    have nnm := hns n hmem
    have los : os.length = ns.length := pos.length_eq
    show tSeq _ _ _ [some (.ref p), some (.int (most : Int)), some (.int (longest : Int)), some (.bl acyc), some (.ref nl), some (.ref ol), some (.ref lb), some (.ref D), some (.str n), y9] H6
    refine q_asgAny ?_
    have ix := idx_of homem
    have lix := List.idxOf_lt_length_of_mem homem
    refine ⟨.ref ol, rfl, .ref ol, rfl, .inl ⟨rfl, _, sq_of hol6⟩, .str n, rfl, ol, os.map V.str, .str n, os.idxOf n, .str n, rfl, rfl, sq_of hol6, rfl, flat_strs os, by rw [List.getElem?_map, ix]; rfl, by show (n == n) = true; exact beq_self_eq_true n, fun m z' hm hz' => ?_, ((os.idxOf n : Nat) : Int), 1, rfl, rfl, ?_⟩
    · rw [List.getElem?_map] at hz'
      cases hom : os[m]? with
      | none => rw [hom] at hz'; cases hz'
      | some y =>
        rw [hom] at hz'
        cases hz'
        show (y == n) = false
        refine beq_eq_false_iff_ne.mpr fun e => ?_
        have hml : m < os.length := (List.getElem?_eq_some_iff.mp hom).1
        have e2 : os[m] = n := by
          rw [List.getElem?_eq_getElem hml] at hom
          exact (Option.some.inj hom).trans e
        have hne := List.not_of_lt_findIdx (p := (· == n)) (xs := os) (i := m) hm
        rw [e2] at hne
        exact absurd (beq_self_eq_true n) (by simpa using hne)
    refine ⟨(((os.idxOf n : Nat) : Int) + 1), rfl, ol, os.map V.str, rfl, sq_of hol6, fun la zla => ?_⟩
    have ec : cutV (os.map V.str) (some (((os.idxOf n : Nat) : Int) + 1)) none = (os.drop (os.idxOf n + 1)).map V.str := by
      rw [List.map_drop]
      exact cutV_from' (xs := os.map V.str) (os.idxOf n + 1)
    rw [ec]
    have lap : la ≠ p := (Drew.refl r6.pot).neq zla
    have r7 : Drew p H6 (upd H6 la (.lst ((os.drop (os.idxOf n + 1)).map V.str))) := (Drew.refl r6.pot).new zla
    have hla7 : (upd H6 la (.lst ((os.drop (os.idxOf n + 1)).map V.str))) la = some (.lst ((os.drop (os.idxOf n + 1)).map V.str)) := upd_same
    generalize upd H6 la (.lst ((os.drop (os.idxOf n + 1)).map V.str)) = H7 at r7 hla7 ⊢
    have r67 := r6.trans r7
    obtain ⟨tg, ts, htgp, htg, hts, htl, htn, hsl⟩ : ∃ (tg : Addr) (ts : List Str), tg ≠ p ∧ H7 tg = some (.lst (ts.map V.str)) ∧ (tg = if acyc = true then la else nl) ∧ ts.length ≤ 100 ∧ (∀ x ∈ ts, x ∈ ns) ∧ (acyc = true → ts = os.drop (os.idxOf n + 1)) := by
      cases acyc with
      | true => exact ⟨la, _, lap, hla7, rfl, by rw [List.length_drop]; omega, fun x hx => pos.mem_iff.mp (List.mem_of_mem_drop hx), fun _ => rfl⟩
      | false => exact ⟨nl, ns, nlp, r7.at nlp hnl6, rfl, by omega, fun x hx => hx, fun z => nomatch z⟩
    have evT : Ev (tIf (tB (tVar 3)) (tVar 9) (tVar 4)) [some (.ref p), some (.int (most : Int)), some (.int (longest : Int)), some (.bl acyc), some (.ref nl), some (.ref ol), some (.ref lb), some (.ref D), some (.str n), some (.ref la)] H7 (.ref tg) := by
      rw [hts]
      cases acyc with
      | true => exact ev_if (b := true) (et_B (ev_var rfl)) (fun _ => ev_var rfl) (fun z => nomatch z)
      | false => exact ev_if (b := false) (et_B (ev_var rfl)) (fun z => nomatch z) (fun _ => ev_var rfl)
    refine ⟨.ref p, rfl, evT H7 (Ex.refl H7) _ fun H8 e8 => ⟨.ref lb, rfl, .int (longest : Int), rfl, p, tg, lb, ts, ls, longest, false, rfl, r67.pot.ex e8, htgp, e8 _ _ htg, htl, fun x hx => hns x (htn x hx), lbp, e8 _ _ (r7.at lbp hlb6), by omega, by omega, hls, by omega, fun Dl ys vss sz H9 zDl hsz md => ?_⟩⟩
    have r8 := r7.trans (Drew.of r67.pot e8)
    have r69 := r8.trans md.dr
    have Dlp : Dl ≠ p := (Drew.refl (r67.pot.ex e8)).neq zDl
    obtain ⟨v1, v2, v3, v4⟩ := made_prog (by omega) md Dlp
    have hD9 := r69.at Dp hD6
    refine ⟨.ref D, rfl, .str n, rfl, D, _, rfl, DPut.k (k := Sum.inr n) hD9 (by rw [lkv_len hkv, sizeLine_eq]; omega), ?_⟩
    have nin : (Sum.inr n : Key) ∉ kv.map (·.1) := by
      rw [lkv_keys hkv]
      intro hm
      obtain ⟨r, hr, er⟩ := List.mem_map.mp hm
      have er := Sum.inr.inj er
      have hm2 : n ∈ ns.take i := by rw [← hnm, ← er]; exact List.mem_map_of_mem hr
      have nd := ndn
      rw [← List.take_append_drop i ns, List.nodup_append] at nd
      refine nd.2.2 n hm2 n ?_ rfl
      rw [List.mem_iff_getElem?]
      exact ⟨0, by rw [List.getElem?_drop, Nat.add_zero, List.getElem?_eq_getElem hil, hn]⟩
    rw [putK_new nin]
    have kp : KeepLT (wo p H9) (wo p (upd H9 D (.dK (kv ++ [(Sum.inr n, .ref Dl)])))) := keep_but (dd := D) (fun a o h hb => by rw [upd_ne (fun e => h (by rw [e]; exact List.mem_singleton.mpr rfl))]; exact hb) hD9
    have sv : ∀ r ∈ L, ∀ ds ∈ r.2, isStep (.tuple ds) = true := fun r hr => (hall r hr).1.st
    have r0 : Drew p H H9 := r6.trans r69
    refine ⟨⟨_, _, rfl⟩, r0.mut zD0 Dp, by rw [upd_ne nlD]; exact r69.at nlp hnl6, by rw [upd_ne olD]; exact r69.at olp hol6, by rw [upd_ne lbD]; exact r69.at lbp hlb6, _, L ++ [(n, progV vss)], upd_same, lkv_snoc (n := n) (Dt.keepLT kp (ndt_prog v1.st) v4) (lkv_keep kp sv (DtKv.ex r69.ex hkv)), ?_, fun r hr => ?_⟩
    · rw [List.map_append, hnm, List.take_add_one, List.getElem?_eq_getElem hil, hn]
      rfl
    · rcases List.mem_append.mp hr with h | h
      · exact hall r h
      · rw [List.mem_singleton.mp h]
        exact ⟨v1, by show (progV vss).length ≤ longest; omega, fun ds hd => okMod_mono htn (v2 ds hd), fun ha ds hd => by have z := v2 ds hd; rw [hsl ha] at z; exact z⟩
  · obtain ⟨⟨y8, y9, rfl⟩, r6, hnl6, hol6, hlb6, kv, L, hD6, hkv, hnm, hall⟩ := hP
    rw [lV, List.take_length] at hnm
    refine ⟨.ref D, rfl, .ref lb, rfl, by show 2 ≤ sizeLine; decide, fun t zt => ?_⟩
    have e7 : Ex H6 (upd H6 t (.tup [.ref D, .ref lb])) := Ex.new zt
    have r7 := r6.new (o := .tup [.ref D, .ref lb]) zt
    have lL : L.length = ns.length := by
      have z := congrArg List.length hnm
      rw [List.length_map] at z
      exact z
    have zt0 : H t = none := by
      cases hh : H t with
      | none => rfl
      | some o =>
        have tp : t ≠ p := (Drew.refl r6.pot).neq zt
        exact absurd (r6.at tp hh) (by rw [zt]; exact fun z => nomatch z)
    refine q t D lb ls L _ zt0 r7 upd_same zD0 Dp (.dct (by rw [wo_ne Dp]; exact e7 _ _ hD6) (DtKv.ex (Ex.wo e7) hkv)) ⟨⟨fun r hr => hns r.1 (by rw [← hnm]; exact List.mem_map_of_mem hr), by rw [hnm]; exact ndn, by omega, by omega, fun r hr => (hall r hr).1⟩, fun r hr => by rw [hnm]; exact (hall r hr).2.2.1⟩ (by omega) (fun r hr => (hall r hr).2.1) (fun ha => ⟨os, by rw [hnm]; exact pos, fun r hr => (hall r hr).2.2.2 ha⟩) lbp (e7 _ _ hlb6) lls hls
end
end Cr
/-! k14: a library shown by the law -/
namespace Cr
open PySem PySem.Spec PyProof.Rows L2 Evl
abbrev sShL : Stmt := topS 42
abbrev nShL : List Str := ["_law_modules_here", "_law_name"]
theorem scShL : FnScope nShL ["_law_modules_here"] (defScope sShL) := ⟨rfl, rfl, rfl, by decide +kernel, rfl, by decide +kernel, by decide +kernel⟩
def rowT (r : Str × Prog) : Str := ((PyData.str r.1).shown ++ ": ") ++ (progD r.2).shown
def shownLw (L : Lib) : Str := ("Library({" ++ Txt.join ", " (L.map rowT)) ++ "})"
theorem shown_join (L : Lib) : (libD L).shown = (("{" : Str) ++ Txt.join ", " (L.map rowT)) ++ "}" := by
  have e : (L.map fun r => (PyData.str r.1, progD r.2)).map (fun e => (PyData.shown e.1 ++ ": ") ++ PyData.shown e.2) = L.map rowT := by
    rw [List.map_map]
    rfl
  have kv : ∀ es : List (PyData × PyData), PyData.shownKv es = es.map fun e => (PyData.shown e.1 ++ ": ") ++ PyData.shown e.2 := by
    intro es
    induction es with
    | nil => rfl
    | cons y r ih => rw [PyData.shownKv, ih]; rfl
  unfold libD
  rw [PyData.shown, kv, e]
  unfold dictText
  rw [TL.join_eq]
theorem shown_lib (L : Lib) : shownLw L = reprL L := by
  unfold shownLw reprL
  rw [shown_join]
  refine TL.ext_tl ?_
  have a1 : TL.tl ("Library({" : Str) = TL.tl ("Library(" : Str) ++ TL.tl ("{" : Str) := by decide +kernel
  have a2 : TL.tl ("})" : Str) = TL.tl ("}" : Str) ++ TL.tl (")" : Str) := by decide +kernel
  have a3 : TL.tl Str.empty = [] := by decide +kernel
  have ap : ∀ a b : Str, TL.tl (a ++ b) = TL.tl a ++ TL.tl b := app_toL
  rw [ap, ap, ap, ap, ap, ap, ap, a1, a2, a3, List.nil_append]
  simp only [List.append_assoc]
theorem ev_addZ {t1 t2 : TE} {σ : L2.St} {H : Hp} {x y : Str} (h1 : Ev t1 σ H (.str x)) (h2 : Ev t2 σ H (.str y)) (hl : x.length + y.length ≤ sizeLine) : Ev (tOp rAddS t1 t2) σ H (.str (x ++ y)) := ev_op h1 h2 fun H3 _ Q q => ⟨x, y, rfl, rfl, hl, q H3 (Ex.refl H3)⟩
theorem sum_le400 : ∀ {ys : List Str}, (∀ y ∈ ys, y.length ≤ 400000) → (ys.map (·.length)).sum ≤ 400000 * ys.length
  | [], _ => Nat.zero_le _
  | y :: ys, h => by
    have a := h y List.mem_cons_self
    have b := sum_le400 fun z hz => h z (List.mem_cons_of_mem y hz)
    rw [List.map_cons, List.sum_cons, List.length_cons]
    omega
theorem nm_szL {x : Str} (h : isNameS x = true) : Sz 32 0 (.str x) := by
  obtain ⟨a, b⟩ := name_okT h
  exact sz_str b fun c hc => by have := a c hc; omega
theorem shown_le {b m : Nat} {d : PyData} (h : Sz b m d) : d.shown.length ≤ 82 * b + 80 := by
  have z := PyData.shown_le_bulk 80 (by decide) d h.lf
  have y := h.bk
  omega
theorem nm_shown {x : Str} (h : isNameS x = true) : (PyData.str x).shown.length ≤ 10000 := by
  have := shown_le (nm_szL h)
  omega
theorem prog_sz {p : Prog} (v : ProgV p) : Sz 4000 2 (progD p) := by
  refine (sz_list (sza_all (b := 132) (m := 1) fun d hd => ?_)).mono ?_ (Nat.le_refl _)
  · obtain ⟨ds, hds, rfl⟩ := List.mem_map.mp hd
    obtain ⟨l4, sz, _⟩ := step_sz (v.st ds hds) (v.it ds hds)
    exact (sz_tuple (sza_all sz)).mono (by omega) (Nat.le_refl _)
  · rw [List.length_map]
    have := v.len
    omega
theorem prog_shown {p : Prog} (v : ProgV p) : (progD p).shown.length ≤ 380000 := by
  have := shown_le (prog_sz v)
  omega
def smallL (L : Lib) : Prop := Fits (libD (srtL L)) ∧ (libD (srtL L)).shown.length ≤ 16000000
def spShL : Sp := fun vs H Q _ => ∃ (d : Addr) (L : Lib), vs = [.ref d] ∧ Dt H (.ref d) (libD L) ∧ LibV L ∧ smallL L ∧ ∀ H', Ex H H' → Q (.str (reprL (srtL L))) H'
section
variable {P : Program} {w : World} {K : PySem.W.Frag} {mg : Str → Option Value} {base : Heap}
theorem ok_shl {f : Addr} {fd : FuncData} {k : Nat} (F : Fun K "_law_shown" "_law_shown" sShL f fd) (B : Blt mg) : FnG P w K mg base CX0 (k + 1) f fd ["_law_modules_here"] spShL := by
  refine okG F scShL (fun vs H Q E h => by obtain ⟨_, _, rfl, _⟩ := h; rfl) (fun cdv A outer s H vs Q E hq hr h => ?_)
  obtain ⟨d, L, rfl, hd, v, ⟨ft, sz⟩, q⟩ := h
  have hu := hu_of hr
  refine ⟨_, pss_one (ps_ret (pe_op op_add_str (pe_op op_add_str pe_str (pe_join pe_str (pe_lc (own := [("_law_name", 1)]) (g := gName 1) (tt := tYes) (te := tOp rAddS (tOp rAddS (tCB rRepr (tCons (tVar 1) tNil)) (tC (.str ": "))) (tCB rRepr (tCons (tDGet (tVar 0) (tVar 1)) tNil))) rfl scShL.nd
      (pi_list (pe_callB (call_sortedD rfl) (by rfl) B.sorted bSrt (pa_cons (pv 0) pa_nil))) (blkOk_by (own := [("_law_name", 1)]) (N := nShL) (sc := defScope sShL) (by decide +kernel))
      (fun _ _ _ _ _ => pg_name (i := 1) scShL.nd rfl (Or.inl rfl)) (fun _ _ _ _ _ => pts_nil)
      (fun _ _ _ _ _ => by exact pe_op op_add_str (pe_op op_add_str (pe_callB (call_reprG hq hr.units) (by rfl) B.repr bRepr (pa_cons (pv 1) pa_nil)) pe_str) (pe_callB (call_reprG hq hr.units) (by rfl) B.repr bRepr (pa_cons (pe_dget hu (pv 0) (pv 1) (fun _ _ => rfl)) pa_nil)))))) pe_str)), ?_⟩
  obtain ⟨kvs, hk, hkv⟩ := dt_dct hd
  have hL : LKv H kvs L := hkv
  have ls : (srtL L).length = L.length := srt_len L
  have l40 := v.l40
  have e1 : ("Library({" : Str).length = 9 := by decide +kernel
  have e2 : (", " : Str).length = 2 := by decide +kernel
  have e3 : ("})" : Str).length = 2 := by decide +kernel
  have e4 : (": " : Str).length = 2 := by decide +kernel
  have row : ∀ n ∈ srtS (L.map (·.1)), isNameS n = true ∧ rowL L n = some (n, progL L n) ∧ ProgV (progL L n) := fun n hn => by
    have hm := (srtS_perm _).mem_iff.mp hn
    obtain ⟨r, hr, e⟩ := List.mem_map.mp hm
    subst e
    have er := progL_in v.nd hr
    rw [er]
    exact ⟨v.nm r hr, rowL_in v.nd hr, v.ok r hr⟩
  have nmf : ∀ {n : Str}, isNameS n = true → Fits (.str n) := fun {n} hn => (nm_szL hn).fits (by decide) (by decide)
  have items : EvL (tLc (iList K (tCB (fun xs H Q => ∃ (a : Addr) (kvs : List (Key × V)) (ks : List Str), xs = [.ref a] ∧ Rd H a (.dK kvs) ∧ kvs.map (·.1) = ks.map Sum.inr ∧ ks.length < 64 ∧ ∀ ys p, ys.Perm ks → sortedS ys = true → H p = none → Q (.ref p) (upd H p (.lst (ys.map V.str)))) (tCons (tVar 0) tNil))) (gName 1) tYes
      (tOp rAddS (tOp rAddS (tCB rRepr (tCons (tVar 1) tNil)) (tC (.str ": "))) (tCB rRepr (tCons (tDGet (tVar 0) (tVar 1)) tNil))) [1]) [some (.ref d), none] H ((srtS (L.map (·.1))).map fun n => .str (rowT (n, progL L n))) := by
    refine el_strsW (K := K) (σ := [some (.ref d), none]) (j := 1) (ws := srtS (L.map (·.1))) (fun H1 e1 Q q => ?_) (by rw [(srtS_perm _).length_eq, List.length_map]; omega) (fun _ => rfl) _ fun n hn H1 e1 => ?_
    · refine ⟨.ref d, rfl, d, kvs, L.map (·.1), rfl, .inl (e1 _ _ hk), by rw [lkv_keys hL, List.map_map]; rfl, by rw [List.length_map]; omega, fun ys S hp2 hs2 zS => ?_⟩
      have eys := sorted_is hp2 hs2
      subst eys
      exact q S _ (Ex.new zS) upd_same
    · obtain ⟨nm, rw1, pv1⟩ := row n hn
      rcases lkv_val n (DtKv.ex e1 hL) with ⟨z, _⟩ | ⟨r', v', hr', hv', dv'⟩
      · rw [rw1] at z; cases z
      rw [rw1] at hr'
      cases hr'
      have f1 := nmf nm
      have f2 := prog_fits pv1
      have s1 := nm_shown nm
      have s2 := prog_shown pv1
      exact ev_addZ (ev_addZ (ev_cb (ea_cons (ev_var rfl) ea_nil) (rc_repr (.str n) f1)) ev_c (by show (PyData.str n).shown.length + (": " : Str).length ≤ sizeLine; rw [e4, sizeLine_eq]; omega)) (ev_cb (ea_cons (ev_dget (ev_var rfl) (ev_var rfl) (e1 _ _ hk) hv') ea_nil) (rc_repr dv' f2)) (by show ((PyData.str n).shown ++ (": " : Str)).length + (progD (progL L n)).shown.length ≤ sizeLine; rw [len_add, e4, sizeLine_eq]; omega)
  have em : (srtS (L.map (·.1))).map (fun n => V.str (rowT (n, progL L n))) = ((srtL L).map rowT).map V.str := by
    unfold srtL
    rw [List.map_map, List.map_map]
    rfl
  rw [em] at items
  have su : (((srtL L).map rowT).map (·.length)).sum ≤ 400000 * ((srtL L).map rowT).length := by
    refine sum_le400 fun y hy => ?_
    obtain ⟨r, hr, rfl⟩ := List.mem_map.mp hy
    have s1 := nm_shown ((srt_v v).nm r hr)
    have s2 := prog_shown ((srt_v v).ok r hr)
    unfold rowT
    rw [len_add, len_add, e4]
    omega
  rw [List.length_map, ls] at su
  have jl := congrArg Str.length (shown_join (srtL L))
  rw [len_add, len_add] at jl
  have e5 : ("{" : Str).length = 1 := by decide +kernel
  have e6 : ("}" : Str).length = 1 := by decide +kernel
  rw [e5, e6] at jl
  have res := ev_addZ (ev_addZ (ev_c (v := .str "Library({")) (ev_join (K := K) (a := ", ") items (by rw [List.length_map, ls, e2]; omega)) (by rw [e1, sizeLine_eq]; omega)) (ev_c (v := .str "})")) (by rw [len_add, e1, e3, sizeLine_eq]; omega)
  have res' := ev_is res (w := .str (reprL (srtL L))) (by rw [← shown_lib]; rfl)
  exact s_ret res' q
end
end Cr
/-! libraries as values -/
namespace Cr
open PySem PySem.Spec PyProof.Rows L2 Evl
theorem libOk_st {L : Lib} (v : LibV L) : StepsV L := fun r hr => (v.ok r hr).st
def EvLb (C : Addr) (te : TE) (σ : L2.St) (H : Hp) (L : Lib) : Prop := ∀ H1, Ex H H1 → ∀ Q : VK, (∀ y H2, Ex H1 H2 → LbAt C H2 y L → Q (.ref y) H2) → te σ H1 Q
theorem evLb_var {C y : Addr} {σ : L2.St} {H : Hp} {L : Lib} {i : Nat} (hi : σ[i]? = some (some (.ref y))) (h : LbAt C H y L) : EvLb C (tVar i) σ H L := fun H1 e1 Q q => ⟨.ref y, hi, q y H1 (Ex.refl H1) (h.ex e1)⟩
theorem evLb_make {C d : Addr} {σ : L2.St} {H : Hp} {L : Lib} {ta : TE} (ha : Ev ta σ H (.ref d)) (hd : Dt H (.ref d) (libD L)) (ok : LibOk L) : EvLb C (tMake C (spLInit C) [] E0 (tCons ta tNil)) σ H (srtL L) := fun H1 e1 Q q => by
  refine ha H1 e1 _ fun H2 e2 => ?_
  intro y dy zy zdy nyd
  obtain ⟨kvs, hk, hkv⟩ := dt_dct (Dt.ex (e1.trans e2) hd)
  have eN : ∀ {o1 o2 : HO}, Ex H2 (upd (upd H2 dy o1) y o2) := fun {o1 o2} b o hb => by rw [upd_ne (ne_of_none hb zy), upd_ne (ne_of_none hb zdy)]; exact hb
  exact ⟨y, dy, .ref d, d, kvs, L, rfl, upd_same, rfl, eN _ _ hk, DtKv.ex eN hkv, ok, fun H9 lb hk => ⟨rfl, q y H9 (e2.trans fun b o hb => hk b o (ne_of_none hb zy) (eN _ _ hb)) lb.at_⟩⟩
/-- Library(d), apart from all that was known -/
theorem make_new {C d : Addr} {σ : L2.St} {H : Hp} {L : Lib} {ta : TE} {Q : VK} (ha : Ev ta σ H (.ref d)) (hd : Dt H (.ref d) (libD L)) (ok : LibOk L) (q : ∀ y H2, H y = none → Ex H H2 → LbNw C H H2 y (srtL L) → Q (.ref y) H2) : tMake C (spLInit C) [] E0 (tCons ta tNil) σ H Q := by
  refine ha H (Ex.refl H) _ fun H2 e2 => ?_
  intro y dy zy zdy nyd
  obtain ⟨kvs, hk, hkv⟩ := dt_dct (Dt.ex e2 hd)
  have eN : ∀ {o1 o2 : HO}, Ex H2 (upd (upd H2 dy o1) y o2) := fun {o1 o2} b o hb => by rw [upd_ne (ne_of_none hb zy), upd_ne (ne_of_none hb zdy)]; exact hb
  exact ⟨y, dy, .ref d, d, kvs, L, rfl, upd_same, rfl, eN _ _ hk, DtKv.ex eN hkv, ok, fun H9 lb hk => ⟨rfl, q y H9 (fresh_back e2 zy) (e2.trans fun b o hb => hk b o (ne_of_none hb zy) (eN _ _ hb)) (lb.back (e2.trans eN))⟩⟩
theorem ev_eqLb {C : Addr} {σ : L2.St} {H : Hp} {La Lb : Lib} {ta tb : TE} (ha : EvLb C ta σ H La) (hb : EvLb C tb σ H Lb) (sa : StepsV La) (sb : StepsV Lb) (nd : (La.map (·.1)).Nodup) : Ev (tOp (rOwn C false (spLEq C) E0) ta tb) σ H (.bl (eqL La Lb)) := fun H1 e1 Q q =>
  ha H1 e1 _ fun y H2 e2 l1 => hb H2 (e1.trans e2) _ fun z H3 e3 l2 => by
    have l1 := l1.ex e3
    obtain ⟨dx, dd, kvs, h1, h2, h3⟩ := l1.ob
    obtain ⟨dx2, dd2, kvs2, k1, k2, k3⟩ := l2.ob
    exact .inl ⟨y, dx, _, rfl, h1, .inr ⟨z, dx2, _, rfl, k1⟩, y, .ref z, La, rfl, l1, sa, nd, .inr ⟨z, Lb, rfl, l2, sb, fun H' e' => ⟨_, rfl, q H' ((e2.trans e3).trans e')⟩⟩⟩
/-! ### equal or not, by what they hold -/
theorem eqv_wordy {d e : PyData} (hd : wordy d = true) (he : wordy e = true) : PyData.eqv d e = true ↔ d = e := by
  cases d with
  | int i =>
    cases e with
    | int j =>
      show (i == j) = true ↔ _
      rw [beq_iff_eq]
      exact ⟨fun z => by rw [z], fun z => by cases z; rfl⟩
    | str y => exact ⟨fun z => (nomatch z), fun z => (nomatch z)⟩
    | _ => exact nomatch he
  | str x =>
    cases e with
    | str y =>
      show (x == y) = true ↔ _
      rw [beq_iff_eq]
      exact ⟨fun z => by rw [z], fun z => by cases z; rfl⟩
    | int j => exact ⟨fun z => (nomatch z), fun z => (nomatch z)⟩
    | _ => exact nomatch he
  | _ => exact nomatch hd
theorem eqvAll_wordy : ∀ {ds es : List PyData}, (∀ d ∈ ds, wordy d = true) → (∀ e ∈ es, wordy e = true) → (PyData.eqvAll ds es = true ↔ ds = es)
  | [], [], _, _ => ⟨fun _ => rfl, fun _ => rfl⟩
  | [], e :: es, _, _ => ⟨fun z => (nomatch z), fun z => (nomatch z)⟩
  | d :: ds, [], _, _ => ⟨fun z => (nomatch z), fun z => (nomatch z)⟩
  | d :: ds, e :: es, hd, he => by
    show (PyData.eqv d e && PyData.eqvAll ds es) = true ↔ _
    rw [Bool.and_eq_true, eqv_wordy (hd d List.mem_cons_self) (he e List.mem_cons_self), eqvAll_wordy (fun z h => hd z (List.mem_cons_of_mem _ h)) fun z h => he z (List.mem_cons_of_mem _ h)]
    exact ⟨fun ⟨a, b⟩ => by rw [a, b], fun z => by cases z; exact ⟨rfl, rfl⟩⟩
theorem eqv_prog {p q : Prog} (hp : ∀ ds ∈ p, isStep (.tuple ds) = true) (hq : ∀ ds ∈ q, isStep (.tuple ds) = true) : PyData.eqv (progD p) (progD q) = true ↔ p = q := by
  have go : ∀ {p q : Prog}, (∀ ds ∈ p, isStep (.tuple ds) = true) → (∀ ds ∈ q, isStep (.tuple ds) = true) → (PyData.eqvAll (p.map PyData.tuple) (q.map PyData.tuple) = true ↔ p = q) := by
    intro p
    induction p with
    | nil =>
      intro q _ _
      cases q with
      | nil => exact ⟨fun _ => rfl, fun _ => rfl⟩
      | cons e q => exact ⟨fun z => (nomatch z), fun z => (nomatch z)⟩
    | cons d p ih =>
      intro q hp hq
      cases q with
      | nil => exact ⟨fun z => (nomatch z), fun z => (nomatch z)⟩
      | cons e q =>
        show (PyData.eqvAll d e && PyData.eqvAll (p.map PyData.tuple) (q.map PyData.tuple)) = true ↔ _
        rw [Bool.and_eq_true, eqvAll_wordy (step_wordy (hp d List.mem_cons_self)).2 (step_wordy (hq e List.mem_cons_self)).2, ih (fun z h => hp z (List.mem_cons_of_mem _ h)) fun z h => hq z (List.mem_cons_of_mem _ h)]
        exact ⟨fun ⟨a, b⟩ => by rw [a, b], fun z => by cases z; exact ⟨rfl, rfl⟩⟩
  exact go hp hq
theorem sub_full : ∀ {xs ys : List Str}, xs.Nodup → (∀ a ∈ xs, a ∈ ys) → ys.length ≤ xs.length → ∀ a ∈ ys, a ∈ xs
  | [], ys, _, _, hl, a, ha => by
    cases ys with
    | nil => exact ha
    | cons y ys => simp at hl
  | x :: xs, ys, nd, h, hl, a, ha => by
    obtain ⟨n1, n2⟩ := List.nodup_cons.mp nd
    have hx := h x List.mem_cons_self
    have le := List.length_erase_of_mem hx
    rw [List.length_cons] at hl
    by_cases e : a = x
    · rw [e]
      exact List.mem_cons_self
    · refine List.mem_cons_of_mem _ (sub_full (xs := xs) (ys := ys.erase x) n2 (fun b hb => ?_) (by omega) a ((List.mem_erase_of_ne e).mpr ha))
      have ne : b ≠ x := fun e => n1 (by rw [← e]; exact hb)
      exact (List.mem_erase_of_ne ne).mpr (h b (List.mem_cons_of_mem _ hb))
theorem eqL_iff {L L' : Lib} (nd : (L.map (·.1)).Nodup) (nd' : (L'.map (·.1)).Nodup) (s : StepsV L) (s' : StepsV L') : eqL L L' = true ↔ srtL L = srtL L' := by
  unfold eqL
  rw [Bool.and_eq_true, beq_iff_eq, List.all_eq_true]
  constructor
  · rintro ⟨hl, h⟩
    have sub : ∀ r ∈ L, r ∈ L' := fun r hr => by
      have z := h r hr
      cases hr' : rowL L' r.1 with
      | none => rw [hr'] at z; cases z
      | some r' =>
        rw [hr'] at z
        obtain ⟨m, e⟩ := rowL_mem hr'
        have e2 := (eqv_prog (s r hr) (s' r' m)).mp z
        have : r = r' := Prod.ext e.symm e2
        rw [this]
        exact m
    have sn : ∀ n ∈ L.map (·.1), n ∈ L'.map (·.1) := fun n hn => by
      obtain ⟨r, hr, rfl⟩ := List.mem_map.mp hn
      exact List.mem_map_of_mem (sub r hr)
    have back := sub_full nd sn (by rw [List.length_map, List.length_map]; omega)
    refine srt_same nd nd' fun r => ⟨sub r, fun hr => ?_⟩
    obtain ⟨y, hy, e⟩ := List.mem_map.mp (back r.1 (List.mem_map_of_mem hr))
    have z1 := rowL_in nd' (sub y hy)
    have z2 := rowL_in nd' hr
    rw [e, z2] at z1
    cases z1
    exact hy
  · intro e
    have hl := congrArg List.length e
    rw [srt_len, srt_len] at hl
    refine ⟨hl, fun r hr => ?_⟩
    have m : r ∈ L' := (mem_srt nd' r).mp (by rw [← e]; exact (mem_srt nd r).mpr hr)
    rw [rowL_in nd' m]
    exact (eqv_prog (s r hr) (s r hr)).mpr rfl
theorem eqL_symm {L L' : Lib} (nd : (L.map (·.1)).Nodup) (nd' : (L'.map (·.1)).Nodup) (s : StepsV L) (s' : StepsV L') : eqL L' L = eqL L L' := by
  rw [Bool.eq_iff_iff, eqL_iff nd' nd s' s, eqL_iff nd nd' s s']
  exact ⟨Eq.symm, Eq.symm⟩
end Cr
/-! k14: libraries alike or not -/
namespace Cr
open PySem PySem.Spec PyProof.Rows L2 Evl
abbrev sAlk : Stmt := topS 43
abbrev nAlk : List Str := ["_law_one", "_law_other", "_law_due"]
theorem scAlk : FnScope nAlk ["_law_one", "_law_other", "_law_due"] (defScope sAlk) := ⟨rfl, rfl, rfl, by decide +kernel, rfl, by decide +kernel, by decide +kernel⟩
structure HasEqL (P : Program) (w : World) (K : PySem.W.Frag) (mg : Str → Option Value) (base : Heap) (k : Nat) (C : Addr) : Prop where
  ex : ∃ f fd, FnOk P w K mg base CX0 k f fd ["self", "other"] (spLEq C) ∧ Binds K fd ["self", "other"] [] ∧ EqC K C f
/-- what a library is compared with, and what is due -/
def OthL (C : Addr) (H : Hp) (L : Lib) (y : V) (b : Bool) : Prop := (OthB H y ∧ b = false) ∨ ∃ (x2 : Addr) (L2 : Lib), y = .ref x2 ∧ LbAt C H x2 L2 ∧ StepsV L2 ∧ (L2.map (·.1)).Nodup ∧ b = eqL L L2
def spAlk (C : Addr) : Sp := fun vs H Q _ => ∃ (x : Addr) (y : V) (b : Bool) (L : Lib), vs = [.ref x, y, .bl b] ∧ LbAt C H x L ∧ StepsV L ∧ (L.map (·.1)).Nodup ∧ OthL C H L y b ∧ ∀ H', Ex H H' → Q (.bl true) H'
theorem rv_lib {C x : Addr} {H : Hp} {L : Lib} {y : V} {b : Bool} (neg : Bool) (lb : LbAt C H x L) (s : StepsV L) (nd : (L.map (·.1)).Nodup) (o : OthL C H L y b) : RV (rOwn C neg (spLEq C) E0) (.ref x) y H (.bl (if neg then !b else b)) := fun H1 e Q q => by
  obtain ⟨dx, dd, kvs, h1, h2, h3⟩ := (lb.ex e).ob
  rcases o with ⟨ob, rfl⟩ | ⟨x2, L2, rfl, lb2, s2, nd2, rfl⟩
  · exact .inl ⟨x, dx, _, rfl, h1, .inl (ob.ex e), x, y, L, rfl, lb.ex e, s, nd, .inl ⟨ob.ex e, fun H' e' => ⟨_, rfl, q H' e'⟩⟩⟩
  · obtain ⟨dx2, dd2, kvs2, k1, k2, k3⟩ := (lb2.ex e).ob
    exact .inl ⟨x, dx, _, rfl, h1, .inr ⟨x2, dx2, _, rfl, k1⟩, x, .ref x2, L, rfl, lb.ex e, s, nd, .inr ⟨x2, L2, rfl, lb2.ex e, s2, fun H' e' => ⟨_, rfl, q H' e'⟩⟩⟩
theorem rv_libR {C x : Addr} {H : Hp} {L : Lib} {y : V} {b : Bool} (neg : Bool) (lb : LbAt C H x L) (s : StepsV L) (nd : (L.map (·.1)).Nodup) (o : OthL C H L y b) : RV (rOwn C neg (spLEq C) E0) y (.ref x) H (.bl (if neg then !b else b)) := fun H1 e Q q => by
  obtain ⟨dx, dd, kvs, h1, h2, h3⟩ := (lb.ex e).ob
  rcases o with ⟨ob, rfl⟩ | ⟨x2, L2, rfl, lb2, s2, nd2, rfl⟩
  · exact .inr ⟨x, dx, _, rfl, h1, ob.ex e, x, y, L, rfl, lb.ex e, s, nd, .inl ⟨ob.ex e, fun H' e' => ⟨_, rfl, q H' e'⟩⟩⟩
  · obtain ⟨dx2, dd2, kvs2, k1, k2, k3⟩ := (lb2.ex e).ob
    rw [← eqL_symm nd nd2 s s2] at q
    exact .inl ⟨x2, dx2, _, rfl, k1, .inr ⟨x, dx, _, rfl, h1⟩, x2, .ref x, L2, rfl, lb2.ex e, s2, nd2, .inr ⟨x, L, rfl, lb.ex e, s, fun H' e' => ⟨_, rfl, q H' e'⟩⟩⟩
section
variable {P : Program} {w : World} {K : PySem.W.Frag} {mg : Str → Option Value} {base : Heap}
theorem ok_alk {f C : Addr} {fd : FuncData} {k : Nat} (F : Fun K "_law_alike" "_law_alike" sAlk f fd) (B : Blt mg) (hE : HasEqL P w K mg base k C) : FnOk P w K mg base CX0 (k + 2) f fd ["_law_one", "_law_other", "_law_due"] (spAlk C) := by
  obtain ⟨fE, dE, GE, bE, TE⟩ := hE.ex
  refine F.ok scAlk (fun vs H Q E h => by obtain ⟨_, _, _, _, rfl, _⟩ := h; rfl) (fun cdv A outer s H vs Q E hr h => ?_)
  obtain ⟨x, y, b, L, rfl, lb, st, nd, o, q⟩ := h
  have hr0 : Room k _ := hr.mono (Nat.le_succ _)
  refine ⟨_, pss_one (ps_ret (pe_cmpR (op_eqDt hr.units) (pe_lst (pa_cons (pe_cmpR (op_ownEq (E := E0) TE GE bE pass0 hr0) (pv 0) (pv 1) (nomark _)) (pa_cons (pe_cmpR (op_ownEq (E := E0) TE GE bE pass0 hr0) (pv 1) (pv 0) (nomark _)) (pa_cons (pe_cmpR (op_ownNe (E := E0) TE GE bE pass0 hr) (pv 0) (pv 1) (nomark _)) (pa_cons (pe_cmpR (op_ownNe (E := E0) TE GE bE pass0 hr) (pv 1) (pv 0) (nomark _)) pa_nil)))))
    (pe_lst (pa_cons (pv 2) (pa_cons (pv 2) (pa_cons (pe_not (pv 2)) (pa_cons (pe_not (pv 2)) pa_nil))))) (nomark _))), ?_⟩
  have one : EvL (tLst (tCons (tOp (rOwn C false (spLEq C) E0) (tVar 0) (tVar 1)) (tCons (tOp (rOwn C false (spLEq C) E0) (tVar 1) (tVar 0)) (tCons (tOp (rOwn C true (spLEq C) E0) (tVar 0) (tVar 1)) (tCons (tOp (rOwn C true (spLEq C) E0) (tVar 1) (tVar 0)) tNil))))) [some (.ref x), some y, some (.bl b)] H [.bl b, .bl b, .bl !b, .bl !b] :=
    el_lst (ea_cons (ev_op (ev_var rfl) (ev_var rfl) (rv_lib false lb st nd o)) (ea_cons (ev_op (ev_var rfl) (ev_var rfl) (rv_libR false lb st nd o)) (ea_cons (ev_op (ev_var rfl) (ev_var rfl) (rv_lib true lb st nd o)) (ea_cons (ev_op (ev_var rfl) (ev_var rfl) (rv_libR true lb st nd o)) ea_nil)))) (by show 4 ≤ 100000; decide)
  have two : EvL (tLst (tCons (tVar 2) (tCons (tVar 2) (tCons (tNotV (tVar 2)) (tCons (tNotV (tVar 2)) tNil))))) [some (.ref x), some y, some (.bl b)] H [.bl b, .bl b, .bl !b, .bl !b] :=
    el_lst (ea_cons (ev_var rfl) (ea_cons (ev_var rfl) (ea_cons (ev_notV (ev_var rfl)) (ea_cons (ev_notV (ev_var rfl)) ea_nil)))) (by show 4 ≤ 100000; decide)
  have dts : ∀ H1, DtAll H1 [V.bl b, .bl b, .bl !b, .bl !b] [.bool b, .bool b, .bool !b, .bool !b] := fun H1 => .cons (.bl b) (.cons (.bl b) (.cons (.bl _) (.cons (.bl _) .nil)))
  refine s_ret (v := .bl true) (fun H1 e1 Q q => evd_ofL one dts H1 e1 _ fun v H2 e2 hv => evd_ofL two dts H2 (e1.trans e2) _ fun u H3 e3 hu => ?_) q
  refine ⟨_, _, Dt.ex e3 hv, hu, by cases b <;> decide, by cases b <;> decide, ?_⟩
  have : PyData.eqv (.list [.bool b, .bool b, .bool !b, .bool !b]) (.list [.bool b, .bool b, .bool !b, .bool !b]) = true := by cases b <;> decide +kernel
  rw [this]
  exact q H3 (e2.trans e3)
end
end Cr
/-! pairs, the first wrong one told -/
namespace Cr
open PySem PySem.Spec PyProof.Rows L2 Evl
abbrev Pairs := List (PyData × PyData)
def namesOf (es : Pairs) : List Str := (es.filter fun e => isName e.1).map fun e => match e.1 with | .str x => x | _ => ""
def firstWrong (ns : List Str) : Pairs → Option (PyData × Int)
  | [] => none
  | e :: es => match pairDue ns e.1 e.2 with
    | some i => some (e.1, i)
    | none => firstWrong ns es
def pairsDue (es : Pairs) : Option (PyData × Int) := if 1 ≤ es.length ∧ es.length ≤ 40 then firstWrong (namesOf es) es else some (.none, -1)
/-- a pair at its place -/
def PrAt (H : Hp) (t : Addr) (e : PyData × PyData) : Prop := ∃ kv v, H t = some (.tup [kv, v]) ∧ Dt H kv e.1 ∧ Dt H v e.2
def PrsAt (H : Hp) (ts : List Addr) (es : Pairs) : Prop := Paired (PrAt H) ts es
theorem PrAt.ex {H H' : Hp} {t : Addr} {e : PyData × PyData} (h : PrAt H t e) (x : Ex H H') : PrAt H' t e := by
  obtain ⟨kv, v, h1, h2, h3⟩ := h
  exact ⟨kv, v, x _ _ h1, Dt.ex x h2, Dt.ex x h3⟩
theorem PrsAt.ex {H H' : Hp} (x : Ex H H') : ∀ {ts : List Addr} {es : Pairs}, PrsAt H ts es → PrsAt H' ts es
  | _, _, .nil => .nil
  | _, _, .cons a b => .cons (a.ex x) (PrsAt.ex x b)
theorem prs_get {H : Hp} : ∀ {ts : List Addr} {es : Pairs} {i : Nat} {e : PyData × PyData}, PrsAt H ts es → es[i]? = some e → ∃ t, ts[i]? = some t ∧ PrAt H t e
  | _, _, _, _, .nil, h => by simp at h
  | _, _, 0, _, .cons a b, h => by cases h; exact ⟨_, rfl, a⟩
  | _, _, i + 1, e, .cons a b, h => prs_get (i := i) (e := e) (show PrsAt H _ _ from b) h
/-- data that the pairs are of -/
structure PrsOk (n : Nat) (es : Pairs) : Prop where
  k : ∀ e ∈ es, sm e.1 = true ∧ cpyTo n e.1
  v : ∀ e ∈ es, sm e.2 = true
theorem wrong_at {ns : List Str} : ∀ {es : Pairs} {j : Nat} {e : PyData × PyData} {i : Int}, (∀ m, m < j → ∀ e', es[m]? = some e' → pairDue ns e'.1 e'.2 = none) → es[j]? = some e → pairDue ns e.1 e.2 = some i → firstWrong ns es = some (e.1, i)
  | [], _, _, _, _, h, _ => by simp at h
  | e :: es, 0, _, _, _, h, d => by
    cases h
    unfold firstWrong
    rw [d]
  | e :: es, j + 1, e', i, b, h, d => by
    unfold firstWrong
    rw [b 0 (Nat.succ_pos j) e rfl]
    exact wrong_at (es := es) (j := j) (fun m hm e'' h' => b (m + 1) (Nat.succ_lt_succ hm) e'' h') h d
theorem wrong_no {ns : List Str} : ∀ {es : Pairs}, (∀ (m : Nat) e, es[m]? = some e → pairDue ns e.1 e.2 = none) → firstWrong ns es = none
  | [], _ => rfl
  | e :: es, b => by
    unfold firstWrong
    rw [b 0 e rfl]
    exact wrong_no fun m e' h => b (m + 1) e' h
/-- pairs in a tuple -/
def spLPrsT (C : Addr) (n : Nat) : Sp := fun vs H Q E => ∃ (a : Addr) (ts : List Addr) (es : Pairs), vs = [.ref a] ∧ H a = some (.tup (ts.map V.ref)) ∧ PrsAt H ts es ∧ PrsOk n es ∧ es.length ≤ 1000 ∧ 2 ≤ n ∧
  (pairsDue es = none → ∀ H', Ex H H' → Q .non H') ∧ ∀ d i, pairsDue es = some (d, i) → ∀ dx H', Rsd2 H H' dx "module" "position" d (.int i) → E (.ref C) (some dx) H'
section
variable {P : Program} {w : World} {K : PySem.W.Frag} {mg : Str → Option Value} {base : Heap}
theorem ok_lprsT {f CL : Addr} {fd : FuncData} {k n : Nat} (F : Fun K "check_pairs" "check_pairs" sLPairs f fd) (B : Blt mg) (TL : MkLib P w K mg base n CL) {tM : Tok} (gM : mg "MOST_MODULES" = some (.int 40 tM)) (hn2 : n + 2 ≤ k)
    (h1 : HasO P w K mg base k "is_name" ["value"] (spD isName)) (h2 : HasE P w K mg base k "check_pair" ["key", "value", "names"] (spLPairG CL n)) : FnOk P w K mg base (L2.CX P w) (k + 1) f fd ["pairs"] (spLPrsT CL n) := by
  obtain ⟨f1, d1, G1, b1, k1, g1⟩ := h1.ex
  obtain ⟨f2, d2, G2, b2, k2, g2⟩ := h2.ex
  obtain ⟨fI, fdI, bb, Ox, FI, FH, bI, iI, tI, gC⟩ := TL.ex
  refine F.okX scLPairs (fun vs H Q E h => by obtain ⟨_, _, _, rfl, _⟩ := h; rfl) (fun cdv A outer s H vs Q E hr h => ?_)
  obtain ⟨a, ts, es, rfl, ha, hts, ok, hl, h2n, q, qe⟩ := h
  refine ⟨_, pss_cons (ps_if (pt_not (pt_chain op_le op_le pe_int (pe_callB call_len_seq (by rfl) B.len bLen (pa_cons (pv 0) pa_nil)) (pe_glob (v := .int 40) (by rfl) gM ⟨_, rfl⟩))) (pss_one (ps_raise rfl (takes_of rfl rfl rfl rfl) (pmkG Ox iI tI FI (hr.mono hn2) bI .nil pass0 (by rfl) gC (pa_cons pe_non (pa_cons (pe_un un_neg pe_int) pa_nil))))) pss_nil)
    (pss_cons (ps_setLc (i := 1) (own := [("key", 2), ("value", 3)]) (g := gTup K 2 (gCons (gName 2) (gCons (gName 3) gNil))) (tt := tB (tCall (spD isName) [] E0 (tCons (tVar 2) tNil))) (te := tVar 2) rfl scLPairs.nd rfl rfl (sw_true rfl rfl rfl (by decide +kernel)) (pi_tup (pv 0)) (blkOk_by (own := [("key", 2), ("value", 3)]) (N := nLPairs) (sc := defScope sLPairs) (by decide +kernel))
        (fun _ _ _ _ _ => by exact pg_tup rfl (pgs_cons (pg_name (i := 2) scLPairs.nd rfl (Or.inl rfl)) (pgs_cons (pg_name (i := 3) scLPairs.nd rfl (Or.inl rfl)) pgs_nil))) (fun _ _ _ _ _ => by exact pts_one (pt_val (pe_call (E := E0) G1 hr (by rfl) g1 k1 b1 .nil pass0 (pa_cons (pv 2) pa_nil))))
        (fun _ _ _ _ _ => pv 2))
    (pss_one (ps_for (passes_of rfl) rfl (pi_tup (pv 0)) (pg_tup rfl (pgs_cons (pg_name (i := 2) scLPairs.nd rfl (.inl rfl)) (pgs_cons (pg_name (i := 3) scLPairs.nd rfl (.inl rfl)) pgs_nil)))
      (pss_one (ps_expr (pe_call (E := E) G2 hr (by rfl) g2 k2 b2 .nil (passes_call (takes_of rfl rfl rfl rfl) fun _ _ _ _ h => h) (pa_cons (pv 2) (pa_cons (pv 3) (pa_cons (pv 1) pa_nil))))))))), ?_⟩
  have lt : ts.length = es.length := Paired.length hts
  have lx : (ts.map V.ref).length = es.length := by rw [List.length_map, lt]
  refine q_when (b := !(decide (1 ≤ es.length) && decide (es.length ≤ 40))) (et_is (et_not (et_test (ev_chain ev_c (ev_cb (ea_cons (ev_var rfl) ea_nil) (rc_lenT (st_of ha))) rv_I0 (fun _ => ev_c) fun _ => rv_I0))) (by
      rw [lx]
      congr 1
      by_cases z : 1 ≤ es.length
      · rw [decide_eq_true z, decide_eq_true (show (1 : Int) ≤ (es.length : Int) by omega), Bool.true_and]
        exact decide_eq_decide.mpr (by omega)
      · rw [decide_eq_false z, decide_eq_false (show ¬ (1 : Int) ≤ (es.length : Int) by omega)]
        rfl)) (fun hb H1 e1 => ?_) (fun hb H1 e1 => ?_)
  · have due : pairsDue es = some (.none, -1) := if_neg (fun z => by rw [decide_eq_true z.1, decide_eq_true z.2] at hb; exact nomatch hb)
    exact mk_lib ⟨1, rfl, .non, .none, -1, rfl, by decide +kernel, .non, ⟨rfl, by show 0 < n; omega⟩, fun dx H' r => qe .none (-1) due dx H' (r.back e1)⟩ (fun k ⟨i, e, r⟩ => ⟨i, e, k _ _ r⟩)
  have hb : (decide (1 ≤ es.length) && decide (es.length ≤ 40)) = true := by rw [Bool.not_eq_false'] at hb; exact hb
  rw [Bool.and_eq_true, decide_eq_true_eq, decide_eq_true_eq] at hb
  have due : pairsDue es = firstWrong (namesOf es) es := if_pos hb
  have row : ∀ {i : Nat} (hi : i < es.length), ∃ t kv v, (ts.map V.ref)[i]? = some (.ref t) ∧ H t = some (.tup [kv, v]) ∧ Dt H kv es[i].1 ∧ Dt H v es[i].2 := fun {i} hi => by
    obtain ⟨t, h1, kv, v, h2, h3, h4⟩ := prs_get hts (List.getElem?_eq_getElem hi)
    exact ⟨t, kv, v, by rw [List.getElem?_map, h1]; rfl, h2, h3, h4⟩
  have lc := el_lcW (wi := iTup K (tVar 0)) (g := gTup K 2 (gCons (gName 2) (gCons (gName 3) gNil))) (tt := tB (tCall (spD isName) [] E0 (tCons (tVar 2) tNil))) (te := tVar 2) (vs := [2, 3])
    (σ := [some (.ref a), none, none, none]) (H := H1) (n := (ts.map V.ref).length) (Y := YAt (ts.map V.ref)) (fun i => isName (es.getD i (.none, .none)).1) (fun i => .str (match (es.getD i (.none, .none)).1 with | .str x => x | _ => "")) (by omega)
    (fun H2 e2 R r => ⟨.ref a, rfl, a, rfl, ⟨_, st_of ((e1.trans e2) _ _ ha)⟩, r H2 _ _ (walk_tup (K := K) (a := a) (xs := ts.map V.ref)) (fun _ _ e z => ex_t e z) (Ex.refl H2) (st_of ((e1.trans e2) _ _ ha))⟩)
    (fun i y H2 H3 e2 hi hy => by
      obtain ⟨rfl, hy⟩ := hy
      have hi : i < es.length := by omega
      obtain ⟨t, kv, v, h1, h2, h3, h4⟩ := row hi
      rw [h1] at hy
      cases hy
      have e12 := e1.trans e2
      have g := getD_at (.none, .none) hi
      have sk := (ok.k _ (List.getElem_mem hi)).1
      generalize es.getD i (.none, .none) = e' at g
      subst g
      refine ⟨Ex.refl _, [some (.ref a), none, some kv, some v], rfl, fun R r => pair_go (e12 _ _ h2) r, et_B (ev_call (ea_cons (ev_var rfl) ea_nil) (spv_D (Dt.ex e12 h3) sk)), fun hn => ?_⟩
      revert hn h3 sk
      generalize es[i].1 = dk
      intro h3 sk hn
      obtain ⟨x, rfl⟩ : ∃ x, dk = .str x := by
        cases dk with
        | str x => exact ⟨x, rfl⟩
        | _ => exact nomatch hn
      cases h3
      exact ev_var rfl)
  have eg : given (ts.map V.ref).length (fun i => isName (es.getD i (.none, .none)).1) (fun i => V.str (match (es.getD i (.none, .none)).1 with | .str x => x | _ => "")) = (namesOf es).map V.str := by
    rw [lx]
    unfold namesOf
    rw [List.map_map]
    exact given_flt es (.none, .none) (fun e => isName e.1) (fun e => V.str (match e.1 with | .str x => x | _ => ""))
  rw [eg] at lc
  refine q_asgL lc fun N H2 zN e2 hN => ?_
  have e12 := e1.trans e2
  refine ⟨.ref a, rfl, a, rfl, ⟨_, st_of (e12 _ _ ha)⟩, for_tup (fun i σ H' => (∃ y2 y3, σ = [some (.ref a), some (.ref N), y2, y3]) ∧ Ex H2 H' ∧ ∀ m, m < i → ∀ e', es[m]? = some e' → pairDue (namesOf es) e'.1 e'.2 = none) ⟨⟨_, _, rfl⟩, Ex.refl H2, fun m hm => absurd hm (Nat.not_lt_zero m)⟩ (fun i σ H' _ h => st_of (h.2.1 _ _ (e12 _ _ ha))) (fun i x σ H' hi hP => ?_) (fun σ H' hP => ?_)⟩
  · obtain ⟨⟨y2, y3, rfl⟩, e3, hw⟩ := hP
    have hil : i < es.length := by
      have := (List.getElem?_eq_some_iff.mp hi).1
      omega
    obtain ⟨t, kv, v, h1, h2, h3, h4⟩ := row hil
    rw [h1] at hi
    cases hi
    have e123 := e12.trans e3
    have hei : es[i]? = some es[i] := List.getElem?_eq_getElem hil
    have okk := ok.k _ (List.getElem_mem hil)
    have okv := ok.v _ (List.getElem_mem hil)
    refine pair_go (e123 _ _ h2) ?_
    refine ⟨kv, rfl, v, rfl, .ref N, rfl, kv, es[i].1, v, es[i].2, N, namesOf es, rfl, Dt.ex e123 h3, okk.1, okk.2, Dt.ex e123 h4, okv, e3 _ _ hN, fun hn H4 e4 => ⟨⟨_, _, rfl⟩, e3.trans e4, fun m hm e' he => ?_⟩, fun j hj dx H' r => qe _ j (by rw [due]; exact wrong_at hw hei hj) dx H' (r.back e123)⟩
    by_cases z : m = i
    · subst z
      rw [hei] at he
      cases he
      exact hn
    · exact hw m (by omega) e' he
  · obtain ⟨⟨y2, y3, rfl⟩, e3, hw⟩ := hP
    have no : firstWrong (namesOf es) es = none := wrong_no fun m e he => by
      have hm := (List.getElem?_eq_some_iff.mp he).1
      exact hw m (by rw [lx]; exact hm) e he
    exact q (due.trans no) H' (e12.trans e3)
end
end Cr
/-! a classmethod with a star parameter: C.m(), C.m(a, b) -/
namespace Cr
open PySem PySem.Spec PyProof.Rows L2
/-- an error told behind a new tuple is told from ahead of it -/
theorem cxNew (P : Program) (w : World) : CXNew (L2.CX P w) := by
  rintro outer s H h2 p rest E e s' kp hp hn ⟨a, B, H', cls, d, eq, fly, hok, ub, na, os, ab, hE⟩
  have ne : ∀ {b : Addr} {o : Obj}, s.heap.get? b = some o → b ≠ p := fun {b o} e z => by
    rw [z] at e
    exact Nat.lt_irrefl _ (Nat.lt_of_lt_of_le (Heap.lt_size e) hp)
  have neH : ∀ {b : Addr} {u : HO}, H b = some u → b ≠ p := fun {b u} e z => by rw [z, hn] at e; cases e
  exact ⟨a, B, H', cls, d, eq, fly, hok, ⟨fun b o e n hb => ub.keep b o (kp b o e) (by rw [upd_ne (ne e)]; exact n) hb, fun b o e hb => ub.slot b o (kp b o e) hb, fun b o e n => ub.free b o (kp b o e) (by rw [upd_ne (ne e)]; exact n), fun b o e hb => ub.there b o (kp b o e) hb,
    fun b xs e => ub.tups b xs (by rw [upd_ne (neH e)]; exact e), fun b o xs e => ub.frzs b o xs (by rw [upd_ne (neH e)]; exact e), fun b ps e => ub.tbls b ps (by rw [upd_ne (neH e)]; exact e)⟩, na, os, ab, hE⟩
end Cr
/-! cls(e, ..), the class in a variable -/
namespace Cr
open PySem PySem.Spec PyProof.Rows L2
section
variable {X : Cx} {CX : CXT} {k i : Nat} {f C : Addr} {fd : FuncData} {ps : List Str} {sp : Sp} {E : XK} {a : Str} {p pos : Pos} {dvs : List V} {ds : List Value} {e : Expr} {es : List Expr} {t : TA}
theorem pe_makeVar (M : Mk X.K C f) (F : FnOk X.prog X.w X.K X.mg X.base CX k f fd ps sp) (hr : Room (k + 1) X.A) (hN : X.N[i]? = some a) (hv : Vis X.env.scope a) (hb : Binds X.K fd ps ds) (hdv : Vals dvs ds) (hx : Passes CX X E) (ha : PA X (e :: es) t)
    (hd : (a == ("__debug__" : Str)) = false := by decide) (hcd : (a == ("__classdict__" : Str)) = false := by decide) (he : starEach (e :: es) X.env = (false, eval e X.env) :: starEach es X.env := by rfl) (hpl : (backTo pos (starEach es X.env)).any (·.1) = false := by rfl) :
    PE X (.Call (.Name a p) (e :: es) [] pos) (fun σ H Q => σ[i]? = some (some (.ref C)) ∧ tMake C sp dvs E t σ H Q) := by
  refine ⟨fun pins s σ H Q I h => ?_⟩
  obtain ⟨hs, hq⟩ := h
  refine wpAny_Call_Name_kw (thn ((pe_var (pos := p) (i := i) hN hv hd hcd).run pins s σ H (fun v H1 => v = .ref C ∧ H1 = H) I ⟨.ref C, hs, rfl, rfl⟩) fun u s1 ⟨v, H1, I1, r1, q1⟩ => ?_)
  obtain ⟨ev, eH⟩ := q1
  subst ev
  rw [eH] at I1
  obtain rfl : u = Value.ref C := r1
  refine PySem.W.callWith_K (h₀ := X.base) I1.ok.mod.kin M.kp (thn (ha.run pos pins s1 σ H _ I1 hq) fun us s2 ⟨vs, H2, I2, r, q⟩ => ⟨I2.kIn, ?_⟩) he hpl
  exact run_make M F hr hb hdv hx I2 r q
end
end Cr
/-! Library.of(*pairs) -/
namespace Cr
open PySem PySem.Spec PyProof.Rows L2 Evl
abbrev sLOf : Stmt := inClass (topS 29) 1
abbrev nLOf : List Str := ["cls", "pairs", "modules", "at", "module", "program"]
theorem scLOf : FnScope nLOf ["cls", "pairs"] (defScope sLOf) := ⟨rfl, rfl, rfl, by decide +kernel, rfl, by decide +kernel, by decide +kernel⟩
abbrev PrS := List (Str × PyData)
def prD (ss : PrS) : Pairs := ss.map fun r => (.str r.1, r.2)
def dupAt (xs : List Str) (i : Nat) : Bool := decide (xs.getD i "" ∈ xs.take i)
def firstDup (xs : List Str) : Option Str := ((List.range xs.length).find? (dupAt xs)).map fun i => xs.getD i ""
def ofDue (ss : PrS) : Option (PyData × Int) := match firstDup (ss.map (·.1)) with
  | some x => some (.str x, -1)
  | none => pairsDue (prD ss)
def libS (L : Lib) : PrS := L.map fun r => (r.1, progD r.2)
def spLOf (C CL : Addr) (n : Nat) : Sp := fun vs H Q E => ∃ (p : Addr) (ts : List Addr) (ss : PrS), vs = [.ref C, .ref p] ∧ H p = some (.tup (ts.map V.ref)) ∧ PrsAt H ts (prD ss) ∧ PrsOk n (prD ss) ∧ ss.length ≤ 5 ∧ 2 ≤ n ∧
  (ofDue ss = none → ∃ L : Lib, ss = libS L ∧ LibOk L ∧ ∀ x H', Ex H H' → H x = none → LbNw C H H' x (srtL L) → Q (.ref x) H') ∧ ∀ d i, ofDue ss = some (d, i) → ∀ dx H', Rsd2 H H' dx "module" "position" d (.int i) → E (.ref CL) (some dx) H'
theorem dup_at {xs : List Str} {i : Nat} (hi : i < xs.length) (hw : dupAt xs i = true) (hb : ∀ j, j < i → dupAt xs j = false) : firstDup xs = some (xs.getD i "") := by
  unfold firstDup
  have e : List.range xs.length = List.range i ++ (List.range (xs.length - i)).map (i + ·) := by
    rw [← List.range_add]
    congr 1
    omega
  have n1 : (List.range i).find? (dupAt xs) = none := by
    rw [List.find?_eq_none]
    intro j hj
    rw [hb j (List.mem_range.mp hj)]
    decide
  rw [e, List.find?_append, n1, Option.none_or]
  obtain ⟨m, hm⟩ : ∃ m, xs.length - i = m + 1 := ⟨xs.length - i - 1, by omega⟩
  rw [hm, List.range_succ_eq_map, List.map_cons, List.find?_cons, Nat.add_zero, hw]
  rfl
theorem dup_no {xs : List Str} (hb : ∀ j, j < xs.length → dupAt xs j = false) : firstDup xs = none := by
  unfold firstDup
  have z : (List.range xs.length).find? (dupAt xs) = none := by
    rw [List.find?_eq_none]
    intro j hj
    rw [hb j (List.mem_range.mp hj)]
    decide
  rw [z]
  rfl
section
variable {P : Program} {w : World} {K : PySem.W.Frag} {mg : Str → Option Value} {base : Heap}
theorem ok_lof {f C CL fL : Addr} {fd dL : FuncData} {k kl n : Nat} (F : Fun K "of" "Library.of" sLOf f fd) (B : Blt mg) (TL : MkLib P w K mg base n CL) (ML : Mk K C fL) (GL : FnOk P w K mg base CX0 kl fL dL ["self", "modules"] (spLInit C)) (bL : Binds K dL ["self", "modules"] []) (hkl : kl + 1 ≤ k) (hn2 : n + 2 ≤ k)
    (h2 : HasE P w K mg base k "check_pairs" ["pairs"] (spLPrsT CL n)) :
    FnR P w K mg base (L2.CX P w) (k + 1) f (fun vs H Q E => ∃ v rest, vs = v :: rest ∧ rest.length ≤ 5 ∧ ∀ p, H p = none → spLOf C CL n [v, .ref p] (upd H p (.tup rest)) Q E) := by
  obtain ⟨f2, d2, G2, b2, k2, g2⟩ := h2.ex
  obtain ⟨fI, fdI, bb, Ox, FI, FH, bI, iI, tI, gC⟩ := TL.ex
  obtain ⟨oc, od, kV, doc, pm, an, cdv, ct, osl, rfl, lk, hcd⟩ := F.ex
  refine fn_ofV (pa := "cls") (pv := "pairs") (nmax := 5) (N := nLOf) lk hcd scLOf (by decide) (bindV_of (fun _ => rfl) (fun _ _ => rfl) (fun _ _ _ => rfl) (fun _ _ _ _ => rfl) (fun _ _ _ _ _ => rfl) (fun _ _ _ _ _ _ => rfl)) (cxNew P w) fun A outer s H vs Q E hr h => ?_
  obtain ⟨p, ts, ss, rfl, hp, hts, ok, l5, h2n, q, qe⟩ := h
  refine ⟨_, pss_cons (ps_setLc (i := 2) (own := [("module", 4), ("program", 5)]) (g := gTup K 2 (gCons (gName 4) (gCons (gName 5) gNil))) (tt := tB (tCB (rIsi K) (tCons (tVar 4) (tCons (tC (.ty "str")) tNil)))) (te := tVar 4) rfl scLOf.nd rfl rfl (sw_true rfl rfl rfl (by decide +kernel)) (pi_tup (pv 1)) (blkOk_by (own := [("module", 4), ("program", 5)]) (N := nLOf) (sc := defScope sLOf) (by decide +kernel))
        (fun _ _ _ _ _ => by exact pg_tup rfl (pgs_cons (pg_name (i := 4) scLOf.nd rfl (Or.inl rfl)) (pgs_cons (pg_name (i := 5) scLOf.nd rfl (Or.inl rfl)) pgs_nil))) (fun _ _ _ _ _ => by exact pts_one (pt_val (pe_callB call_isi (by rfl) B.isi bIsi (pa_cons (pv 4) (pa_cons (pe_bltn (v := .ty "str") (by rfl) B.str bStr rfl) pa_nil)))))
        (fun _ _ _ _ _ => pv 4))
    (pss_cons (ps_for (passes_of rfl) rfl (pi_enum (by rfl) B.enum (pa_cons (pv 2) pa_nil)) (pg_tup rfl (pgs_cons (pg_name (i := 3) scLOf.nd rfl (.inl rfl)) (pgs_cons (pg_name (i := 4) scLOf.nd rfl (.inl rfl)) pgs_nil)))
      (pss_one (ps_if (pt_cmpR op_in_seq (pv 4) (pe_slice sl_list (pv 2) po_none (po_some (pv 3))) (by rfl)) (pss_one (ps_raise rfl (takes_of rfl rfl rfl rfl) (pmkG Ox iI tI FI (hr.mono hn2) bI .nil pass0 (by rfl) gC (pa_cons (pv 4) (pa_cons (pe_un un_neg pe_int) pa_nil))))) pss_nil)))
    (pss_cons (ps_expr (pe_call (E := E) G2 hr (by rfl) g2 k2 b2 .nil (passes_call (takes_of rfl rfl rfl rfl) fun _ _ _ _ h => h) (pa_cons (pv 1) pa_nil)))
    (pss_one (ps_ret (pe_makeVar (E := E0) (i := 0) ML GL (hr.mono hkl) rfl (.inl rfl) bL .nil pass0 (pa_cons (pe_dc (own := [("module", 4), ("program", 5)]) (g := gTup K 2 (gCons (gName 4) (gCons (gName 5) gNil))) (tt := tYes) (tk := tVar 4) (tv := tVar 5) rfl scLOf.nd (pi_tup (pv 1)) (blkOk_by (own := [("module", 4), ("program", 5)]) (N := nLOf) (sc := defScope sLOf) (by decide +kernel))
        (fun _ _ _ _ _ => by exact pg_tup rfl (pgs_cons (pg_name (i := 4) scLOf.nd rfl (Or.inl rfl)) (pgs_cons (pg_name (i := 5) scLOf.nd rfl (Or.inl rfl)) pgs_nil))) (fun _ _ _ _ _ => pts_nil) (fun _ _ _ _ _ => pv 4) (fun _ _ _ _ _ => pv 5)) pa_nil)))))), ?_⟩
  have lt : ts.length = ss.length := by
    have z := Paired.length hts
    unfold prD at z
    rw [List.length_map] at z
    exact z
  have lx : (ts.map V.ref).length = ss.length := by rw [List.length_map, lt]
  have row : ∀ {i : Nat} (hi : i < ss.length), ∃ t v, (ts.map V.ref)[i]? = some (.ref t) ∧ H t = some (.tup [.str ss[i].1, v]) ∧ Dt H v ss[i].2 := fun {i} hi => by
    have hi' : (prD ss)[i]? = some (.str ss[i].1, ss[i].2) := by
      unfold prD
      rw [List.getElem?_map, List.getElem?_eq_getElem hi]
      rfl
    obtain ⟨t, h1, kv, v, h2, h3, h4⟩ := prs_get hts hi'
    have h3 : Dt H kv (.str ss[i].1) := h3
    cases h3
    exact ⟨t, v, by rw [List.getElem?_map, h1]; rfl, h2, h4⟩
  have lc := el_lcW (wi := iTup K (tVar 1)) (g := gTup K 2 (gCons (gName 4) (gCons (gName 5) gNil))) (tt := tB (tCB (rIsi K) (tCons (tVar 4) (tCons (tC (.ty "str")) tNil)))) (te := tVar 4) (vs := [4, 5])
    (σ := [some (.ref C), some (.ref p), none, none, none, none]) (H := H) (n := (ts.map V.ref).length) (Y := YAt (ts.map V.ref)) (fun _ => true) (fun i => .str ((ss.map (·.1)).getD i ("" : Str))) (by omega)
    (fun H2 e2 R r => ⟨.ref p, rfl, p, rfl, ⟨_, st_of (e2 _ _ hp)⟩, r H2 _ _ (walk_tup (K := K) (a := p) (xs := ts.map V.ref)) (fun _ _ e z => ex_t e z) (Ex.refl H2) (st_of (e2 _ _ hp))⟩)
    (fun i y H2 H3 e2 hi hy => by
      obtain ⟨rfl, hy⟩ := hy
      have hi : i < ss.length := by omega
      obtain ⟨t, v, h1, h2, h3⟩ := row hi
      rw [h1] at hy
      cases hy
      refine ⟨Ex.refl _, [some (.ref C), some (.ref p), none, none, some (.str ss[i].1), some v], rfl, fun R r => pair_go (e2 _ _ h2) r, et_is (et_B (ev_cb (ea_cons (ev_var rfl) (ea_cons ev_c ea_nil)) (rc_isi (.str ss[i].1) (by decide)))) rfl, fun _ => ?_⟩
      have e : (ss.map (·.1)).getD i ("" : Str) = ss[i].1 := by rw [getD_at _ (by rw [List.length_map]; exact hi), List.getElem_map]
      rw [e]
      exact ev_var rfl)
  have eg : given (ts.map V.ref).length (fun _ => true) (fun i => V.str ((ss.map (·.1)).getD i ("" : Str))) = (ss.map (·.1)).map V.str := by
    rw [given_all, lx]
    refine List.ext_getElem? fun i => ?_
    by_cases hi : i < ss.length
    · rw [List.getElem?_map, List.getElem?_range hi, List.getElem?_map, List.getElem?_eq_getElem (show i < (ss.map (·.1)).length by rw [List.length_map]; exact hi)]
      show some (V.str _) = some (V.str _)
      rw [getD_at _ (show i < (ss.map (·.1)).length by rw [List.length_map]; exact hi)]
    · rw [List.getElem?_eq_none (by rw [List.length_map, List.length_range]; omega), List.getElem?_eq_none (by rw [List.length_map, List.length_map]; omega)]
  rw [eg] at lc
  refine q_asgL lc fun M H2 zM e2 hM => ?_
  have lm : ((ss.map (·.1)).map V.str).length = ss.length := by rw [List.length_map, List.length_map]
  refine ⟨.ref M, rfl, M, (ss.map (·.1)).map V.str, rfl, sq_of hM, for_it (walk_enum (K := K) (a := M) (xs := (ss.map (·.1)).map V.str)) (fun i σ H' => (∃ y3 y4 y5, σ = [some (.ref C), some (.ref p), some (.ref M), y3, y4, y5]) ∧ Ex H2 H' ∧ ∀ j, j < i → dupAt (ss.map (·.1)) j = false)
    ⟨⟨none, none, none, rfl⟩, Ex.refl _, fun j hj => absurd hj (Nat.not_lt_zero _)⟩ (fun i σ H' _ hP => sq_of (hP.2.1 _ _ hM)) (fun i x σ H' H3 hi hP hY => ?_) (fun σ H' hP => ?_)⟩
  · obtain ⟨⟨y3, y4, y5, rfl⟩, e3, hw⟩ := hP
    obtain ⟨T', x0, y, rfl, zT, rfl, hx0, hy⟩ := hY
    have hx0' : V.int (i : Nat) = x0 := Option.some.inj hx0
    subst hx0'
    have hil : i < (ss.map (·.1)).length := by rw [List.length_map]; omega
    have hli : (ss.map (·.1))[i]? = some (ss.map (·.1))[i] := List.getElem?_eq_getElem hil
    have hy : ((ss.map (·.1)).map V.str)[i]? = some y := hy
    rw [List.getElem?_map, hli] at hy
    cases hy
    have gd : (ss.map (·.1)).getD i ("" : Str) = (ss.map (·.1))[i] := getD_at _ hil
    generalize (ss.map (·.1))[i] = x at gd hli
    have e4 := Ex.new (o := .tup [.int (i : Nat), .str x]) zT
    refine pair_go upd_same ?_
    generalize upd H' T' (.tup [.int (i : Nat), .str x]) = H4 at e4 ⊢
    have eM := (e3.trans e4) _ _ hM
    have test : EvT (tTest (tOp (rIn K false) (tVar 4) (tSl (rSlL K) (tVar 2) tNoPart (tPart (tVar 3))))) [some (.ref C), some (.ref p), some (.ref M), some (.int (i : Nat)), some (.str x), y5] H4 (dupAt (ss.map (·.1)) i) := by
      suffices ev : Ev (tOp (rIn K false) (tVar 4) (tSl (rSlL K) (tVar 2) tNoPart (tPart (tVar 3)))) [some (.ref C), some (.ref p), some (.ref M), some (.int (i : Nat)), some (.str x), y5] H4 (.bl (dupAt (ss.map (·.1)) i)) from et_test ev
      refine fun H1 e1 Q q => ⟨.str x, rfl, ?_⟩
      refine el_cutTo (K := K) (tl := tVar 2) (ti := tVar 3) (k := i) (ev_var rfl) eM (ev_var rfl) H1 e1 _ fun l H5 zl e5 hl => ?_
      have er : inV (.str x) (((ss.map (·.1)).map V.str).take i) = dupAt (ss.map (·.1)) i := by
        unfold dupAt
        rw [gd, ← List.map_take, inV_strs]
        rw [Bool.eq_iff_iff, List.any_eq_true, decide_eq_true_eq]
        exact ⟨fun ⟨y, hy, e⟩ => by rw [← beq_iff_eq.mp e]; exact hy, fun h => ⟨x, h, beq_self_eq_true x⟩⟩
      refine ⟨l, ((ss.map (·.1)).map V.str).take i, rfl, .inl (sq_of hl), rfl, ?_, ?_⟩
      · rw [← List.map_take]
        exact flat_strs _
      · show Q (.bl (inV (.str x) _)) H5
        rw [er]
        exact q H5 e5
    refine s_when test (fun hb H5 e5 => ?_) (fun hb H5 e5 => ?_)
    · have due : ofDue ss = some (.str x, -1) := by
        unfold ofDue
        rw [dup_at hil hb hw, gd]
      exact mk_lib ⟨.str x, rfl, 1, rfl, .str x, .str x, -1, rfl, by decide +kernel, .str x, ⟨rfl, by show 0 < n; omega⟩, fun dx H' r => qe _ (-1) due dx H' (r.back (((e2.trans e3).trans e4).trans e5))⟩ (fun k ⟨i, e, j, e2, r⟩ => ⟨i, e, j, e2, k _ _ r⟩)
    · refine ⟨⟨_, _, _, rfl⟩, (e3.trans e4).trans e5, fun j hj => ?_⟩
      by_cases hji : j = i
      · subst hji
        exact hb
      · exact hw j (by omega)
  obtain ⟨⟨y3, y4, y5, rfl⟩, e3, hw⟩ := hP
  rw [lm] at hw
  have nd : firstDup (ss.map (·.1)) = none := dup_no fun j hj => hw j (by rw [List.length_map] at hj; exact hj)
  have due : ofDue ss = pairsDue (prD ss) := by
    unfold ofDue
    rw [nd]
  have e23 := e2.trans e3
  refine ⟨.ref p, rfl, p, ts, prD ss, rfl, e23 _ _ hp, hts.ex e23, ok, by unfold prD; rw [List.length_map]; omega, h2n, fun hn H4 e4 => ?_, fun d i hd dx H4 r => qe d i (due.trans hd) dx H4 (r.back e23)⟩
  obtain ⟨L, rfl, okL, q6⟩ := q (due.trans hn)
  have e24 := e23.trans e4
  have ll : (libS L).length = L.length := List.length_map ..
  refine ⟨rfl, .ref p, rfl, p, rfl, ⟨_, st_of (e24 _ _ hp)⟩, fun D zD => ?_⟩
  have zD0 : H D = none := fresh_back e24 zD
  have st : ∀ r ∈ L, ∀ ds ∈ r.2, isStep (.tuple ds) = true := fun r hr => (okL.v.ok r hr).st
  refine dc_it (walk_tup (K := K) (a := p) (xs := ts.map V.ref)) (fun i H' => Ex H4 H' ∧ ∃ kv, H' D = some (.dK kv) ∧ LKv H' kv (L.take i)) ⟨Ex.new zD, [], upd_same, by rw [List.take_zero]; exact .nil⟩ (fun i H' _ h => st_of (h.1 _ _ (e24 _ _ hp))) ?_ ?_
  · rintro i v H5 H5' hi ⟨e5, kv, hD, hkv⟩ ⟨rfl, hy⟩
    have hi2 : i < L.length := by omega
    have hi3 : i < (libS L).length := by omega
    obtain ⟨t, u, h1, h2, h3⟩ := row hi3
    have hy : (ts.map V.ref)[i]? = some v := hy
    rw [h1] at hy
    cases hy
    have es : (libS L)[i] = (L[i].1, progD L[i].2) := List.getElem_map ..
    rw [es] at h2 h3
    have e25 := e24.trans e5
    refine pair_go (e25 _ _ h2) ⟨rfl, ?_⟩
    unfold tYes
    dsimp only
    rw [if_pos rfl]
    have nin : (Sum.inr L[i].1 : Key) ∉ kv.map (·.1) := by
      rw [lkv_keys hkv]
      intro hm
      obtain ⟨r, hr, er⟩ := List.mem_map.mp hm
      have er := Sum.inr.inj er
      have nd := okL.v.nd
      rw [← List.take_append_drop i L, List.map_append, List.nodup_append] at nd
      refine nd.2.2 r.1 (List.mem_map_of_mem hr) L[i].1 (List.mem_map.mpr ⟨L[i], ?_, rfl⟩) er
      rw [List.mem_iff_getElem?]
      exact ⟨0, by rw [List.getElem?_drop, Nat.add_zero, List.getElem?_eq_getElem hi2]⟩
    refine ⟨.str L[i].1, rfl, u, rfl, kv, Sum.inr L[i].1, rfl, hD, by rw [lkv_len hkv, List.length_take, sizeLine_eq]; have := okL.v.l40; omega, Ex.mut e5 zD, _, upd_same, ?_⟩
    rw [putK_new nin, List.take_add_one, List.getElem?_eq_getElem hi2, Option.toList_some]
    have kp : KeepLT H5' (upd H5' D (.dK (kv ++ [(Sum.inr L[i].1, u)]))) := keepLT_upd (fun xs h => by rw [hD] at h; cases h) (fun xs h => by rw [hD] at h; cases h)
    exact lkv_snoc (Dt.keepLT kp (ndt_prog (st _ (List.getElem_mem hi2))) (Dt.ex e25 h3)) (lkv_keep kp (fun r hr => st r (List.mem_of_mem_take hr)) hkv)
  · rintro H5 ⟨e5, kv, hD, hkv⟩
    rw [lx, ll, List.take_length] at hkv
    intro x dx zx zdx nxd
    refine ⟨x, dx, .ref D, D, kv, L, rfl, upd_same, rfl, ?_, ?_, okL, fun H6 lb keep => ⟨rfl, q6 x H6 (fun b o hb => ?_) (fresh_back (e24.trans e5) zx) (lb.back ((e24.trans e5).trans fun b o hb => by rw [upd_ne (ne_of_none hb zx), upd_ne (ne_of_none hb zdx)]; exact hb))⟩⟩
    · rw [upd_ne (ne_of_none hD zx), upd_ne (ne_of_none hD zdx)]
      exact hD
    · exact DtKv.ex (fun b o hb => by rw [upd_ne (ne_of_none hb zx), upd_ne (ne_of_none hb zdx)]; exact hb) hkv
    · have hb5 := (e24.trans e5) _ _ hb
      exact keep b o (ne_of_none hb5 zx) (by rw [upd_ne (ne_of_none hb5 zx), upd_ne (ne_of_none hb5 zdx)]; exact hb5)
end
end Cr
/-! C.m(..), a classmethod, in a try: what is wished of an exception may speak of the slots -/
namespace Cr
open PySem PySem.Spec PyProof.Rows L2
def tCMethS (C : Addr) (sp : Sp) (E : L2.St → XK) (ta : TE) (t : TA) : TE := fun σ H Q => ta σ H fun x H1 => x = .ref C ∧ t σ H1 fun vs H2 => sp (.ref C :: vs) H2 Q (E σ)
section
variable {X : Cx} {CX : CXT} {k : Nat} {C p g : Addr} {mc : Value} {sp : Sp} {E : L2.St → XK} {o e : Expr} {es : List Expr} {m : Str} {pos apos : Pos} {ta : TE} {t : TA} {pl : Sem Bool} {pins : List (Addr × Obj)} {σ : L2.St} {H : Hp} {s : Shared}
theorem run_fnRS {Q : VK} {us : List Value} {vs : List V} (F : FnR X.prog X.w X.K X.mg X.base CX k g sp) (hr : Room k X.A) (hx : PassesAt CX X σ (E σ)) (I : Inv X pins σ H s) (r : Vals vs us) (h : sp vs H Q (E σ)) :
    codeAny (model X.prog X.w) X.A (.call (.ref g) ⟨us, []⟩) (fun r s' => match r with | .ok (.ret v) => EP X pins σ Q v s' | .ok _ => False | .error e => X.xe e s') s := by
  refine codeAny_mono (F X.A X.stack s H us vs Q (E σ) hr I.env0 r h) fun r s' hq => ?_
  match r, hq with
  | .error e, hq => exact hx pins H s e s' I hq
  | .ok (.ret u), hq => exact I.after hq
  | .ok .next, hq => exact False.elim hq
  | .ok .brk, hq => exact False.elim hq
  | .ok .cont, hq => exact False.elim hq
theorem run_cmS {q : Addr} {Q : VK} {us : List Value} {vs : List V} (F : FnR X.prog X.w X.K X.mg X.base CX k g sp) (hr : Room k X.A) (hx : PassesAt CX X σ (E σ)) (I : Inv X ((q, PySem.W.methodObj (.ref g) (.ref C)) :: pins) σ H s)
    (r : Vals vs us) (h : sp (.ref C :: vs) H Q (E σ)) : wpAny (model X.prog X.w) X.A (call (.ref q) us) (EP X pins σ Q) X.xe s := by
  have z : wpAny (model X.prog X.w) X.A (call (.ref q) us) (EP X ((q, PySem.W.methodObj (.ref g) (.ref C)) :: pins) σ Q) X.xe s :=
    wpAny_call (PySem.W.method_call (ClX.pin_at I) (run_fnRS (us := .ref C :: us) (vs := .ref C :: vs) F hr hx I (.cons rfl r) h))
  exact thn z fun _ _ y => ClX.unpinE y
theorem pe_cmethS (he : PE X o ta) (r : ClX.CRead X.K C mc) (c : ClX.CMet X.K C mc m p g) (F : FnR X.prog X.w X.K X.mg X.base CX k g sp) (hr : Room k X.A) (hx : ∀ σ, PassesAt CX X σ (E σ)) (ha : PA X (e :: es) t)
    (hst : starEach (e :: es) X.env = (false, eval e X.env) :: starEach es X.env := by rfl) (hpl : (backTo pos (starEach es X.env)).any (·.1) = false := by rfl)
    (ht : eval (.Call (.Attribute o m apos) (e :: es) [] pos) X.env = (do
      let ov ← eval o X.env
      standAt apos.atName
      let (f, first) ← holding [ov] (getMethod ov m pl)
      callWith pos f first (backTo pos (starEach (e :: es) X.env)) (backToKw pos (keywordEach [] X.env))) := by rfl) :
    PE X (.Call (.Attribute o m apos) (e :: es) [] pos) (tCMethS C sp E ta t) := by
  refine ⟨fun pins s σ H Q I h => ?_⟩
  refine PySem.W.methodCall_KW (pl := pl) (thn (he.run pins s σ H _ I h) fun u s1 ⟨x, H1, I1, rx, ex, q⟩ => ?_) ht
  subst ex
  obtain rfl : u = Value.ref C := rx
  refine ClX.getmethcm_ok I1 r c fun s2 I2 => ?_
  refine ClX.callwith_cm I2 (ClX.base_none I1 (Nat.le_refl _)) c.fi (thn (ha.run pos _ s2 σ H1 _ I2 q) fun us s3 ⟨vs, H2, I3, rv, q2⟩ => ⟨⟨ClX.pin_at I3, I3.kIn⟩, ?_⟩) hst hpl
  exact run_cmS F hr (hx σ) I3 rv q2
theorem pe_cmeth0S (he : PE X o ta) (r : ClX.CRead X.K C mc) (c : ClX.CMet X.K C mc m p g) (F : FnR X.prog X.w X.K X.mg X.base CX k g sp) (hr : Room k X.A) (hx : ∀ σ, PassesAt CX X σ (E σ))
    (ht : eval (.Call (.Attribute o m apos) [] [] pos) X.env = (do
      let ov ← eval o X.env
      standAt apos.atName
      let (f, first) ← holding [ov] (getMethod ov m pl)
      callWith pos f first (backTo pos (starEach [] X.env)) (backToKw pos (keywordEach [] X.env))) := by rfl) :
    PE X (.Call (.Attribute o m apos) [] [] pos) (tCMethS C sp E ta tNil) := by
  refine ⟨fun pins s σ H Q I h => ?_⟩
  refine PySem.W.methodCall_KW (pl := pl) (thn (he.run pins s σ H _ I h) fun u s1 ⟨x, H1, I1, rx, ex, q⟩ => ?_) ht
  subst ex
  obtain rfl : u = Value.ref C := rx
  refine ClX.getmethcm_ok I1 r c fun s2 I2 => ?_
  exact PySem.W.callWith_M0 (first := []) ⟨ClX.pin_at I2, I2.kIn⟩ c.fi (run_cmS (us := []) (vs := []) F hr (hx σ) I2 .nil q)
end
end Cr
/-! k14: Library.of told -/
namespace Cr
open PySem PySem.Spec PyProof.Rows L2 Evl
abbrev sOfP : Stmt := topS 44
abbrev nOfP : List Str := ["_law_pairs", "_law_found", "e"]
theorem scOfP : FnScope nOfP ["_law_pairs"] (defScope sOfP) := ⟨rfl, rfl, rfl, by decide +kernel, rfl, by decide +kernel, by decide +kernel⟩
abbrev spLOfR (C CL : Addr) (n : Nat) : Sp := fun vs H Q E => ∃ v rest, vs = v :: rest ∧ rest.length ≤ 5 ∧ ∀ p, H p = none → spLOf C CL n [v, .ref p] (upd H p (.tup rest)) Q E
/-- Library.of at hand -/
structure OfL (P : Program) (w : World) (K : PySem.W.Frag) (mg : Str → Option Value) (base : Heap) (k n : Nat) (C CL : Addr) : Prop where
  ex : ∃ (mc : Value) (q f : Addr), ClX.CRead K C mc ∧ ClX.CMet K C mc "of" q f ∧ FnR P w K mg base (L2.CX P w) k f (spLOfR C CL n)
structure ErrLb (K : PySem.W.Frag) (mg : Str → Option Value) (CL : Addr) : Prop where
  gL : mg "InvalidLibrary" = some (.ref CL)
  ec : ExcC K CL
  mo : PySem.W.findIn K (.ref CL) "module" = some none
  po : PySem.W.findIn K (.ref CL) "position" = some none
  ex : PySem.W.exmOne K (.ref CL) (.ref CL) = some true
def tOnlyL (C : Addr) (t : Addr → TS) (cls : Value) (d : Option Addr) : TS := fun D σ H => ∃ dd, cls = .ref C ∧ d = some dd ∧ t dd D σ H
theorem ixK {X : Cx} {K : PySem.W.Frag} (h : X.K = K) : IxR X (rIxL K) := by
  subst h
  exact ix_list
theorem lenK {X : Cx} {K : PySem.W.Frag} (h : X.K = K) : CallR X (.builtin "len") (fun xs H Q => ∃ p ys, xs = [V.ref p] ∧ (SqL K H p ys ∨ SqT K H p ys) ∧ Q (.int ys.length) H) := by
  subst h
  exact call_len_seq
theorem of_go {C CL : Addr} {n : Nat} {E : L2.St → XK} {tA : TA} {σ : L2.St} {H : Hp} {Q : VK} {ts : List Addr} {ss : PrS} (ha : EvA tA σ H (ts.map V.ref)) (hts : PrsAt H ts (prD ss)) (ok : PrsOk n (prD ss)) (l5 : ss.length ≤ 5) (h2n : 2 ≤ n)
    (q : ofDue ss = none → ∃ L : Lib, ss = libS L ∧ LibOk L ∧ ∀ x H', Ex H H' → H x = none → LbNw C H H' x (srtL L) → Q (.ref x) H') (qe : ∀ d i, ofDue ss = some (d, i) → ∀ dx H', Rsd2 H H' dx "module" "position" d (.int i) → E σ (.ref CL) (some dx) H') :
    tCMethS C (spLOfR C CL n) E (tC (.ref C)) tA σ H Q := by
  have lt : ts.length = ss.length := by
    have z := Paired.length hts
    unfold prD at z
    rw [List.length_map] at z
    exact z
  refine ⟨rfl, ha H (Ex.refl H) _ fun H2 e2 => ⟨.ref C, ts.map V.ref, rfl, by rw [List.length_map, lt]; exact l5, fun p zp => ⟨p, ts, ss, rfl, upd_same, (hts.ex e2).ex (Ex.new zp), ok, l5, h2n, fun hn => ?_, fun d i hd dx H' r => qe d i hd dx H' (r.back (e2.trans (Ex.new zp)))⟩⟩⟩
  obtain ⟨L, e, okL, k⟩ := q hn
  exact ⟨L, e, okL, fun x H' ex zx lb => k x H' ((e2.trans (Ex.new zp)).trans ex) (fresh_back (e2.trans (Ex.new zp)) zx) (lb.back (e2.trans (Ex.new zp)))⟩
def spOfP (C : Addr) (n : Nat) : Sp := fun vs H Q _ => ∃ (a : Addr) (ts : List Addr) (ss : PrS), vs = [.ref a] ∧ H a = some (.lst (ts.map V.ref)) ∧ PrsAt H ts (prD ss) ∧ PrsOk n (prD ss) ∧ ss.length ≤ 4 ∧ 2 ≤ n ∧
  (ofDue ss = none → ∃ L : Lib, ss = libS L ∧ LibOk L ∧ ∀ x H', Ex H H' → H x = none → LbNw C H H' x (srtL L) → Q (.ref x) H') ∧
  ∀ d i, ofDue ss = some (d, i) → ∀ l H', H l = none → Ex H H' → Dt H' (.ref l) (.list [d, .int i]) → Q (.ref l) H'
section
variable {P : Program} {w : World} {K : PySem.W.Frag} {mg : Str → Option Value} {base : Heap}
theorem ok_ofp {f C CL : Addr} {fd : FuncData} {k n : Nat} (F : Fun K "_law_of_pairs" "_law_of_pairs" sOfP f fd) (B : Blt mg) (T : LbC K mg C) (O : OfL P w K mg base k n C CL) (TE : ErrLb K mg CL) : FnOk P w K mg base CX0 (k + 1) f fd ["_law_pairs"] (spOfP C n) := by
  obtain ⟨mc, qq, g, rd, cm, G⟩ := O.ex
  refine F.ok scOfP (fun vs H Q E h => by obtain ⟨_, _, _, rfl, _⟩ := h; rfl) (fun cdv A outer s H vs Q E hr h => ?_)
  obtain ⟨a, ts, ss, rfl, ha, hts, ok, l4, h2n, q, qe⟩ := h
  refine ⟨_, pss_cons (ps_set (i := 1) scOfP.nd rfl (.inl rfl) pe_non)
    (pss_cons (ps_try_as (i := 2) (x := "InvalidLibrary") (c := .ref CL) (Wout := fun _ _ _ _ => False) rfl rfl scOfP.nd rfl rfl ⟨by rfl, by decide, .inl TE.gL⟩ takes0
        (fun W pn xe tk po => pss_one (ps_if (pt_cmpR op_lt (pe_callB (lenK (K := K) rfl) (by rfl) B.len bLen (pa_cons (pv 0) pa_nil)) pe_int (nomark _))
          (pss_one (ps_set (i := 1) scOfP.nd rfl (.inl rfl) (pe_ifExp (pt_cmpR op_eq (pe_callB (lenK (K := K) rfl) (by rfl) B.len bLen (pa_cons (pv 0) pa_nil)) pe_int (nomark _))
            (pe_cmethS (E := WE W) (pe_glob (v := .ref C) (by rfl) T.at_ rfl) rd cm G hr (fun σ => passAt tk σ) (pa_cons (pe_ix (ixK (K := K) rfl) (pv 0) pe_int (fun _ _ => rfl)) pa_nil))
            (pe_cmeth0S (E := WE W) (pe_glob (v := .ref C) (by rfl) T.at_ rfl) rd cm G hr (fun σ => passAt tk σ)))))
          (pss_one (ps_if (pt_cmpR op_lt (pe_callB (lenK (K := K) rfl) (by rfl) B.len bLen (pa_cons (pv 0) pa_nil)) pe_int (nomark _))
            (pss_one (ps_set (i := 1) scOfP.nd rfl (.inl rfl) (pe_ifExp (pt_cmpR op_eq (pe_callB (lenK (K := K) rfl) (by rfl) B.len bLen (pa_cons (pv 0) pa_nil)) pe_int (nomark _))
              (pe_cmethS (E := WE W) (pe_glob (v := .ref C) (by rfl) T.at_ rfl) rd cm G hr (fun σ => passAt tk σ) (pa_cons (pe_ix (ixK (K := K) rfl) (pv 0) pe_int (fun _ _ => rfl)) (pa_cons (pe_ix (ixK (K := K) rfl) (pv 0) pe_int (fun _ _ => rfl)) pa_nil)))
              (pe_cmethS (E := WE W) (pe_glob (v := .ref C) (by rfl) T.at_ rfl) rd cm G hr (fun σ => passAt tk σ) (pa_cons (pe_ix (ixK (K := K) rfl) (pv 0) pe_int (fun _ _ => rfl)) (pa_cons (pe_ix (ixK (K := K) rfl) (pv 0) pe_int (fun _ _ => rfl)) (pa_cons (pe_ix (ixK (K := K) rfl) (pv 0) pe_int (fun _ _ => rfl)) pa_nil)))))))
            (pss_one (ps_set (i := 1) scOfP.nd rfl (.inl rfl) (pe_cmethS (E := WE W) (pe_glob (v := .ref C) (by rfl) T.at_ rfl) rd cm G hr (fun σ => passAt tk σ) (pa_cons (pe_ix (ixK (K := K) rfl) (pv 0) pe_int (fun _ _ => rfl)) (pa_cons (pe_ix (ixK (K := K) rfl) (pv 0) pe_int (fun _ _ => rfl)) (pa_cons (pe_ix (ixK (K := K) rfl) (pv 0) pe_int (fun _ _ => rfl)) (pa_cons (pe_ix (ixK (K := K) rfl) (pv 0) pe_int (fun _ _ => rfl)) pa_nil))))))))))) 
        (ts := fun a => tOnlyL CL fun dd => tAsg (tLst (tCons (tXf a (.ref CL) (some dd) CL "module" (tVar 2)) (tCons (tXf a (.ref CL) (some dd) CL "position" (tVar 2)) tNil))) (gName 1))
        (fun a oe cls d pn hz hf => ⟨fun pins s σ H D I h => by
          obtain ⟨dd, rfl, rfl, h⟩ := h
          exact PSs.run (pss_one (ps_set (i := 1) scOfP.nd rfl (.inl rfl) (pe_lst (pa_cons (pe_xf (xfOfX TE.ec) TE.mo hz hf (pv 2)) (pa_cons (pe_xf (xfOfX TE.ec) TE.po hz hf (pv 2)) pa_nil))))) pins s σ H D I h⟩))
    (pss_one (ps_ret (pv 1)))), ?_⟩
  have lt : ts.length = ss.length := by
    have z := Paired.length hts
    unfold prD at z
    rw [List.length_map] at z
    exact z
  have lx : (ts.map V.ref).length = ss.length := by rw [List.length_map, lt]
  have tl : ∀ (c : Int) {H2 : Hp} {v1 v2 : Option V}, Ex H H2 → EvT (tTest (tOp (rI0 fun i j => .bl (decide (i < j))) (tCB (fun xs H Q => ∃ p ys, xs = [V.ref p] ∧ (SqL K H p ys ∨ SqT K H p ys) ∧ Q (.int ys.length) H) (tCons (tVar 0) tNil)) (tC (.int c)))) [some (.ref a), v1, v2] H2 (decide ((ss.length : Int) < c)) := fun c H2 v1 v2 e2 =>
    et_is (et_test (ev_op (ev_cb (ea_cons (ev_var rfl) ea_nil) (rc_lenL (sq_of (e2 _ _ ha)))) ev_c rv_I0)) (by rw [lx])
  have te : ∀ (c : Int) {H2 : Hp} {v1 v2 : Option V}, Ex H H2 → EvT (tTest (tOp rEq (tCB (fun xs H Q => ∃ p ys, xs = [V.ref p] ∧ (SqL K H p ys ∨ SqT K H p ys) ∧ Q (.int ys.length) H) (tCons (tVar 0) tNil)) (tC (.int c)))) [some (.ref a), v1, v2] H2 (decide ((ss.length : Int) = c)) := fun c H2 v1 v2 e2 =>
    et_is (et_test (ev_op (ev_cb (ea_cons (ev_var rfl) ea_nil) (rc_lenL (sq_of (e2 _ _ ha)))) ev_c (rv_eq rfl))) (by rw [lx]; exact decide_eq_decide.mpr ⟨fun z => V.int.inj z, fun z => by rw [z]⟩)
  have tx : ∀ (j : Nat) {H2 : Hp} {v1 v2 : Option V} {t : Addr}, Ex H H2 → ts[j]? = some t → Ev (tOp (rIxL K) (tVar 0) (tC (.int (j : Int)))) [some (.ref a), v1, v2] H2 (.ref t) := fun j H2 v1 v2 t e2 ht =>
    ev_op (ev_var rfl) ev_c (rv_ixL (sq_of (e2 _ _ ha)) (atI_nat (by rw [List.getElem?_map, ht]; rfl)))
  refine q_asg ev_c fun H1 e1 => ?_
  show tIfS _ _ _ _ [some (.ref a), some .non, none] H1
  have fin : ∀ {tA : TA} {H3 : Hp}, Ex H H3 → EvA tA [some (.ref a), some .non, none] H3 (ts.map V.ref) → tCMethS C (spLOfR C CL n) (WE (wAs K (.ref CL) 2 (fun a => tOnlyL CL fun dd => tAsg (tLst (tCons (tXf a (.ref CL) (some dd) CL "module" (tVar 2)) (tCons (tXf a (.ref CL) (some dd) CL "position" (tVar 2)) tNil))) (gName 1)) (fun _ _ _ _ => False)
      { nx := fun σ' H' => tRet (tVar 1) { nx := fun _ H' => Q .non H', rt := Q } σ' H', rt := Q })) (tC (.ref C)) tA [some (.ref a), some .non, none] H3 fun v H' => gName 1 v [some (.ref a), some .non, none] H' fun σ' H' => tRet (tVar 1) { nx := fun _ H' => Q .non H', rt := Q } σ' H' := fun {tA H3} e3 hA => by
    refine of_go (ts := ts) (ss := ss) hA (hts.ex e3) ok (by omega) h2n (fun hn => ?_) (fun d i hd dx H' r => ?_)
    · obtain ⟨L, es, okL, k⟩ := q hn
      exact ⟨L, es, okL, fun x H' ex zx lb => s_ret (ev_var rfl) fun H5 e5 => k x H5 ((e3.trans ex).trans e5) (fresh_back e3 zx) ((lb.back e3).ex e5)⟩
    · refine ⟨true, TE.ex, fun _ a1 ha1 => ⟨dx, rfl, rfl, ?_⟩, fun z => nomatch z⟩
      obtain ⟨nw, exx, v, u, hx, dv, du⟩ := r
      cases du
      refine ⟨.ref a1, rfl, rfl, rfl, dx, _, v, rfl, hx, rfl, .ref a1, rfl, rfl, rfl, dx, _, .int i, rfl, hx, rfl, by show 2 ≤ sizeLine; decide, fun D zD => ?_⟩
      have eD := Ex.new (o := .lst [v, .int i]) zD
      exact s_ret (ev_var rfl) fun H5 e5 => qe d i hd D H5 (fresh_back (e3.trans exx) zD) (((e3.trans exx).trans eD).trans e5) (.lst (e5 _ _ upd_same) (.cons (Dt.ex (eD.trans e5) dv) (.cons (.int i) .nil)))
  have ix : ∀ {j : Nat}, j < ts.length → ∃ t, ts[j]? = some t := fun {j} h => ⟨_, List.getElem?_eq_getElem h⟩
  by_cases c1 : ss.length < 2
  · refine s_if (tl 2 e1) (fun _ H2 e2 => ?_) (fun z => by rw [decide_eq_true (by omega)] at z; exact nomatch z)
    have e12 := e1.trans e2
    by_cases c2 : ss.length = 1
    · refine te 1 e12 H2 (Ex.refl H2) _ fun H3 e3 => ?_
      rw [if_pos (decide_eq_true (by omega))]
      obtain ⟨t0, rfl⟩ : ∃ t0, ts = [t0] := List.length_eq_one_iff.mp (by omega)
      exact fin (e12.trans e3) (ea_cons (tx 0 (e12.trans e3) rfl) ea_nil)
    · refine te 1 e12 H2 (Ex.refl H2) _ fun H3 e3 => ?_
      rw [if_neg (by rw [decide_eq_false (by omega)]; decide)]
      obtain rfl : ts = [] := List.length_eq_zero_iff.mp (by omega)
      exact fin (e12.trans e3) ea_nil
  · refine s_if (tl 2 e1) (fun z => by rw [decide_eq_false (by omega)] at z; exact nomatch z) (fun _ H2 e2 => ?_)
    have e12 := e1.trans e2
    by_cases c3 : ss.length < 4
    · refine s_if (tl 4 e12) (fun _ H3 e3 => ?_) (fun z => by rw [decide_eq_true (by omega)] at z; exact nomatch z)
      have e13 := e12.trans e3
      by_cases c2 : ss.length = 2
      · refine te 2 e13 H3 (Ex.refl H3) _ fun H4 e4 => ?_
        rw [if_pos (decide_eq_true (by omega))]
        obtain ⟨t0, t1, rfl⟩ : ∃ t0 t1, ts = [t0, t1] := by
          match ts, (show ts.length = 2 by omega) with
          | [t0, t1], _ => exact ⟨t0, t1, rfl⟩
        exact fin (e13.trans e4) (ea_cons (tx 0 (e13.trans e4) rfl) (ea_cons (tx 1 (e13.trans e4) rfl) ea_nil))
      · refine te 2 e13 H3 (Ex.refl H3) _ fun H4 e4 => ?_
        rw [if_neg (by rw [decide_eq_false (by omega)]; decide)]
        obtain ⟨t0, t1, t2, rfl⟩ : ∃ t0 t1 t2, ts = [t0, t1, t2] := by
          match ts, (show ts.length = 3 by omega) with
          | [t0, t1, t2], _ => exact ⟨t0, t1, t2, rfl⟩
        exact fin (e13.trans e4) (ea_cons (tx 0 (e13.trans e4) rfl) (ea_cons (tx 1 (e13.trans e4) rfl) (ea_cons (tx 2 (e13.trans e4) rfl) ea_nil)))
    · refine s_if (tl 4 e12) (fun z => by rw [decide_eq_false (by omega)] at z; exact nomatch z) (fun _ H3 e3 => ?_)
      have e13 := e12.trans e3
      obtain ⟨t0, t1, t2, t3, rfl⟩ : ∃ t0 t1 t2 t3, ts = [t0, t1, t2, t3] := by
        match ts, (show ts.length = 4 by omega) with
        | [t0, t1, t2, t3], _ => exact ⟨t0, t1, t2, t3, rfl⟩
      exact fin e13 (ea_cons (tx 0 e13 rfl) (ea_cons (tx 1 e13 rfl) (ea_cons (tx 2 e13 rfl) (ea_cons (tx 3 e13 rfl) ea_nil))))
end
end Cr
/-! k14: a module that is missing, told -/
namespace Cr
open PySem PySem.Spec PyProof.Rows L2 Evl
abbrev sMis : Stmt := topS 47
abbrev nMis : List Str := ["_law_made", "_law_thing", "_law_told", "e"]
theorem scMis : FnScope nMis ["_law_made", "_law_thing"] (defScope sMis) := ⟨rfl, rfl, rfl, by decide +kernel, rfl, by decide +kernel, by decide +kernel⟩
structure ErrU (K : PySem.W.Frag) (mg : Str → Option Value) (CU CD CT : Addr) : Prop where
  gU : mg "UnknownModule" = some (.ref CU)
  gD : mg "NoNeed" = some (.ref CD)
  gT : mg "UnknownThread" = some (.ref CT)
  ec : ExcC K CU
  val : PySem.W.findIn K (.ref CU) "value" = some none
  ex : PySem.W.exmOne K (.ref CU) (.ref CU) = some true
  kL : PySem.W.kitOne K (.ref CU) (.type "LookupError") = some true
  kD : PySem.W.kitOne K (.ref CU) (.ref CD) = some false
  kT : PySem.W.kitOne K (.ref CU) (.ref CT) = some false
  kK : PySem.W.kitOne K (.ref CU) (.type "KeyError") = some false
structure HasIni (P : Program) (w : World) (K : PySem.W.Frag) (mg : Str → Option Value) (base : Heap) (k n : Nat) (C CU : Addr) : Prop where
  ex : ∃ f fd, FnOk P w K mg base (L2.CX P w) k f fd ["self", "module"] (spLIniG C CU n) ∧ Binds K fd ["self", "module"] [] ∧ Meth K C "initializer" f
def misD (d : PyData) : PyData := .list [.str d.shown, .bool true, .bool false]
/-- a value that is no module of the library -/
def spMis (C : Addr) (n : Nat) : Sp := fun vs H Q _ => ∃ (x : Addr) (v : V) (d : PyData) (L : Lib), vs = [.ref x, v] ∧ LbAt C H x L ∧ Dt H v d ∧ sm d = true ∧ cpyTo n d ∧ Fits d ∧ hasL L d = false ∧
  ∀ u H', Ex H H' → Dt H' u (misD d) → Q u H'
section
variable {P : Program} {w : World} {K : PySem.W.Frag} {mg : Str → Option Value} {base : Heap}
theorem ok_mis {f C CU CD CT : Addr} {fd : FuncData} {k n : Nat} (F : Fun K "_law_missing" "_law_missing" sMis f fd) (B : Blt mg) (T : LbC K mg C) (TU : ErrU K mg CU CD CT) (h1 : HasIni P w K mg base k n C CU) : FnG P w K mg base CX0 (k + 1) f fd ["_law_made", "_law_thing"] (spMis C n) := by
  obtain ⟨f1, d1, G1, b1, m1⟩ := h1.ex
  refine okG F scMis (fun vs H Q E h => by obtain ⟨_, _, _, _, rfl, _⟩ := h; rfl) (fun cdv A outer s H vs Q E hq hr h => ?_)
  obtain ⟨x, v, d, L, rfl, lb, hd, hs, hc, fit, no, q⟩ := h
  refine ⟨_, pss_cons (ps_set (i := 2) scMis.nd rfl (.inl rfl) pe_non)
    (pss_cons (ps_try_as (i := 3) (x := "UnknownModule") (c := .ref CU) (Wout := fun _ _ _ _ => False) rfl rfl scMis.nd rfl rfl ⟨by rfl, by decide, .inl TU.gU⟩ takes0
        (fun W pn xe tk po => pss_one (ps_set (i := 2) scMis.nd rfl (.inl rfl) (methS (E := WE W) (pv 0) T.cl m1 G1 hr b1 (fun σ => passAt tk σ) (pa_cons (pv 1) pa_nil))))
        (ts := fun a => tOnlyL CU fun dd => tAsg (tLst (tCons (tCB rRepr (tCons (tXf a (.ref CU) (some dd) CU "value" (tVar 3)) tNil)) (tCons (tCB (rIsX K CU a dd) (tCons (tVar 3) (tCons (tC (.ty "LookupError")) tNil))) (tCons (tCB (rIsX K CU a dd) (tCons (tVar 3) (tCons (tTup (tCons (tC (.ref CD)) (tCons (tC (.ref CT)) (tCons (tC (.ty "KeyError")) tNil)))) tNil))) tNil)))) (gName 2))
        (fun a oe cls d pn hz hf => ⟨fun pins s σ H D I h => by
          obtain ⟨dd, rfl, rfl, h⟩ := h
          exact PSs.run (pss_one (ps_set (i := 2) scMis.nd rfl (.inl rfl) (pe_lst (pa_cons (pe_callB (call_reprG hq hr.units) (by rfl) B.repr bRepr (pa_cons (pe_xf (xfOfX TU.ec) TU.val hz hf (pv 3)) pa_nil))
            (pa_cons (pe_callB (call_isX TU.ec hz hf) (by rfl) B.isi bIsi (pa_cons (pv 3) (pa_cons (pe_bltn (v := .ty "LookupError") (by rfl) B.lerr bLerr rfl) pa_nil)))
            (pa_cons (pe_callB (call_isX TU.ec hz hf) (by rfl) B.isi bIsi (pa_cons (pv 3) (pa_cons (pe_tup (pa_cons (pe_glob (v := .ref CD) (by rfl) TU.gD rfl) (pa_cons (pe_glob (v := .ref CT) (by rfl) TU.gT rfl) (pa_cons (pe_bltn (v := .ty "KeyError") (by rfl) B.kerr bKerr rfl) pa_nil)))) pa_nil))) pa_nil)))))) pins s σ H D I h⟩))
    (pss_one (ps_ret (pv 2)))), ?_⟩
  refine q_asg ev_c fun H1 e1 => ?_
  obtain ⟨dx0, dd0, kvs, o1, o2, o3⟩ := lb.ob
  refine ⟨.ref x, rfl, x, dx0, _, rfl, e1 _ _ o1, rfl, v, rfl, x, v, d, L, rfl, lb.ex e1, Dt.ex e1 hd, hs, hc, fun m em hm => ?_, fun _ dx H2 r => ?_⟩
  · rw [no] at hm
    exact nomatch hm
  obtain ⟨nw, e2, u, hx, du⟩ := r
  refine ⟨true, TU.ex, fun _ a ha => ⟨dx, rfl, rfl, ?_⟩, fun z => nomatch z⟩
  have xf : EvD (tXf a (.ref CU) (some dx) CU "value" (tVar 3)) [some (.ref x), some v, some .non, some (.ref a)] H2 d := fun H3 e3 Q' q' => ⟨.ref a, rfl, rfl, rfl, dx, _, u, rfl, e3 _ _ hx, rfl, q' _ H3 (Ex.refl _) (Dt.ex e3 du)⟩
  have r1 : EvD (tCB rRepr (tCons (tXf a (.ref CU) (some dx) CU "value" (tVar 3)) tNil)) [some (.ref x), some v, some .non, some (.ref a)] H2 (.str d.shown) := fun H3 e3 Q' q' => xf H3 e3 _ fun z H4 e4 hz => ⟨z, d, rfl, hz, fit, q' _ H4 e4 (.str _)⟩
  have i1 : Ev (tCB (rIsX K CU a dx) (tCons (tVar 3) (tCons (tC (.ty "LookupError")) tNil))) [some (.ref x), some v, some .non, some (.ref a)] H2 (.bl true) := fun H3 e3 Q' q' => ⟨.ref a, rfl, _, _, rfl, ⟨_, e3 _ _ hx⟩, .inl ⟨_, .ty "LookupError", TU.kL⟩, q' _ (Ex.refl _)⟩
  have i2 : Ev (tCB (rIsX K CU a dx) (tCons (tVar 3) (tCons (tTup (tCons (tC (.ref CD)) (tCons (tC (.ref CT)) (tCons (tC (.ty "KeyError")) tNil)))) tNil))) [some (.ref x), some v, some .non, some (.ref a)] H2 (.bl false) := fun H3 e3 Q' q' =>
    ⟨.ref a, rfl, by show 3 ≤ sizeLine; decide, fun tp ztp => ⟨.ref tp, false, rfl, ⟨_, Ex.new ztp _ _ (e3 _ _ hx)⟩, .inr ⟨tp, _, [.ref CD, .ref CT, .type "KeyError"], rfl, upd_same, .cons (.own CD) (.cons (.own CT) (.cons (.ty "KeyError") .nil)), kitAny_cons TU.kD (fun _ => kitAny_cons TU.kT (fun _ => kitAny_cons TU.kK (fun _ => kitAny_nil) (fun z => nomatch z)) (fun z => nomatch z)) (fun z => nomatch z)⟩, q' _ (Ex.new ztp)⟩⟩
  have ed := evda_cons r1 (evda_cons (evd_of i1 (.bl true)) (evda_cons (evd_of i2 (.bl false)) evda_nil))
  refine evd_lst ed (by show 3 ≤ 1000; decide) H2 (Ex.refl _) _ fun l H4 e4 hl => ?_
  exact s_ret (ev_var rfl) fun H5 e5 => q l H5 (((e1.trans e2).trans e4).trans e5) (Dt.ex e5 hl)
end
end Cr
/-! paths from a name, the shortest first: the list that grows while it is walked -/
namespace Cr
open PySem PySem.Spec PyProof.Rows L2 Evl
def lastP (p : List Str) : Str := p.getLastD ""
def lasts (q : List (List Str)) : List Str := q.map lastP
/-- one target more -/
def ext1 (p : List Str) (q : List (List Str)) (t : Str) : List (List Str) := if t ∈ lasts q then q else q ++ [p ++ [t]]
def ext (ts : List Str) (p : List Str) (q : List (List Str)) : List (List Str) := ts.foldl (ext1 p) q
inductive Reach (T : Str → List Str) (a : Str) : Str → Prop
  | refl : Reach T a a
  | step {b t : Str} : Reach T a b → t ∈ T b → Reach T a t
theorem Reach.mono {T T' : Str → List Str} {a b : Str} (h : ∀ s t, t ∈ T s → t ∈ T' s) (r : Reach T a b) : Reach T' a b := by
  induction r with
  | refl => exact .refl
  | step _ m ih => exact .step ih (h _ _ m)
end Cr
/-! the search by levels over rising targets: its paths rise, and each is the least one to its end -/
namespace Cr
open PySem
/-- lists of texts in order -/
def ltL : List Str → List Str → Prop
  | [], [] => False
  | [], _ :: _ => True
  | _ :: _, [] => False
  | x :: xs, y :: ys => ltS x y ∨ (x = y ∧ ltL xs ys)
/-- the shorter first, equally long ones in order -/
def sl (p q : List Str) : Prop := p.length < q.length ∨ (p.length = q.length ∧ ltL p q)
inductive IsPath (T : Str → List Str) (a : Str) : List Str → Prop
  | one : IsPath T a [a]
  | more {p : List Str} {t : Str} : IsPath T a p → t ∈ T (lastP p) → IsPath T a (p ++ [t])
section
variable {T : Str → List Str} {a : Str}
theorem IsPath.ne {p : List Str} (h : IsPath T a p) : p ≠ [] := by
  cases h with
  | one => exact List.cons_ne_nil _ _
  | more _ _ => exact List.append_ne_nil_of_right_ne_nil _ (List.cons_ne_nil _ _)
end
end Cr
/-! lists of names as data: their order, min, comprehensions that make them -/
namespace Cr
open PySem PySem.Spec PyProof.Rows L2 Evl
def lD (p : List Str) : PyData := .list (p.map PyData.str)
/-! ### min of a list of lists of names -/
/-! ### comprehensions whose members are new lists of names -/
end Cr
/-! new pairs in a comprehension over any walk; parts of lists of names -/
/-! xs[:] = ys -/
/-! dict([(name, a new list) for name in names]); list.remove of a pair -/
namespace Cr
open PySem PySem.Spec PyProof.Rows L2 Evl
/-- a dict of lists of names, by names -/
def NmD (H : Hp) (d : Addr) (ns : List Str) (f : Str → List Str) : Prop := ∃ kvs, H d = some (.dK kvs) ∧ ∀ n ∈ ns, ∃ L, valV kvs (.inr n) = some (.ref L) ∧ H L = some (.lst ((f n).map V.str))
theorem NmD.ex {H H' : Hp} {d : Addr} {ns : List Str} {f : Str → List Str} (h : NmD H d ns f) (e : Ex H H') : NmD H' d ns f := by
  obtain ⟨kvs, h1, h2⟩ := h
  exact ⟨kvs, e _ _ h1, fun n hn => by obtain ⟨L, a, b⟩ := h2 n hn; exact ⟨L, a, e _ _ b⟩⟩
abbrev rDictP (K : PySem.W.Frag) : List V → Hp → VK → Prop := fun xs H Q => ∃ (a : Addr) (ps : List Addr) (kvs : List (Key × V)), xs = [.ref a] ∧ SqL K H a (ps.map V.ref) ∧ Paired (fun p kv => SqT K H p [kV kv.1, kv.2]) ps kvs ∧ ∀ p, H p = none → Q (.ref p) (upd H p (.dK (mergeK [] kvs)))
/-! ### list.remove of a pair -/
end Cr
/-! dict([(name, its program) for name in names]) -/
/-! dict([(name, a new list) for name in names]) -/
namespace Cr
open PySem PySem.Spec PyProof.Rows L2 Evl
structure CRow where
  t : Addr
  n : Str
  l : Addr
/-- a dict of new lists -/
structure CpD (H1 H : Hp) (d : Addr) (xf : Str → List V) (rs : List (Str × Addr)) : Prop where
  at_ : H d = some (.dK (rs.map fun r => ((.inr r.1 : Key), V.ref r.2)))
  new : H1 d = none
  row : ∀ r ∈ rs, H1 r.2 = none ∧ r.2 ≠ d ∧ H r.2 = some (.lst (xf r.1))
  nd : (rs.map (·.2)).Nodup
theorem dictC_at {K : PySem.W.Frag} {J : It} {G : Hp → Prop} {Y : Nat → Hp → V → Hp → Prop} {tn : TE} {σ : L2.St} {H1 : Hp} {j : Nat} {ns : List Str} {Q : VK} (xf : Str → List V) (w : Walk J ns.length G Y) (hG : ∀ H2, Ex H1 H2 → G H2) (hY : ∀ i H x H', Y i H x H' → H' = H ∧ ∃ n, ns[i]? = some n ∧ x = .str n)
    (nd : ns.Nodup) (hz : ns.length ≤ 40000) (hj : ∀ x, wipe ((wipe σ [j]).set j (some x)) [j] = wipe σ [j]) (hjl : j < σ.length) (hwl : (wipe σ [j]).length = σ.length)
    (ht : ∀ n ∈ ns, ∀ H2, Ex H1 H2 → EvL tn ((wipe σ [j]).set j (some (.str n))) H2 (xf n)) (q : ∀ d rs H2, rs.map (·.1) = ns → Ex H1 H2 → CpD H1 H2 d xf rs → Q (.ref d) H2) :
    tLc (fun _ H R => R J H) (gName j) tYes (tTup (tCons (tVar j) (tCons tn tNil))) [j] σ H1 fun x H2 => rDictP K [x] H2 Q := fun D hD => by
  refine lc_it w (fun i H2 => ∃ rs : List CRow, H2 D = some (.lst (rs.map fun r => V.ref r.t)) ∧ rs.map (·.n) = ns.take i ∧ (∀ r ∈ rs, r.t ≠ D ∧ H2 r.t = some (.tup [.str r.n, .ref r.l]) ∧ H1 r.l = none ∧ r.l ≠ D ∧ H2 r.l = some (.lst (xf r.n))) ∧ (rs.map (·.l)).Nodup ∧ Ex H1 (wo D H2))
    ⟨[], upd_same, rfl, fun r h => (nomatch h), List.nodup_nil, fun c o hb => by rw [wo_ne (ne_of_none hb hD), upd_ne (ne_of_none hb hD)]; exact hb⟩ (fun i H2 _ z => ?_) (fun i x H2 H3 hlt z y => ?_) (fun H2 z => ?_)
  · obtain ⟨_, _, _, _, _, ex2⟩ := z
    exact hG H2 (ex2.trans (wo_ex D H2))
  · obtain ⟨rs, hD2, hrs, hr, hnd, ex2⟩ := z
    obtain ⟨rfl, n, hn, rfl⟩ := hY _ _ _ _ y
    have low := ex2.trans (wo_ex D H3)
    refine ⟨hj _, ?_⟩
    refine (show EvT tYes _ H3 true from fun H1 _ Q q => q H1 (Ex.refl H1)) H3 (Ex.refl H3) _ fun H5 e5 => ?_
    rw [if_pos rfl]
    replace hD2 := e5 _ _ hD2
    replace hr : ∀ r ∈ rs, r.t ≠ D ∧ H5 r.t = some (.tup [.str r.n, .ref r.l]) ∧ H1 r.l = none ∧ r.l ≠ D ∧ H5 r.l = some (.lst (xf r.n)) := fun r h => ⟨(hr r h).1, e5 _ _ (hr r h).2.1, (hr r h).2.2.1, (hr r h).2.2.2.1, e5 _ _ (hr r h).2.2.2.2⟩
    replace low := low.trans e5
    clear ex2 e5
    refine ⟨.str n, List.getElem?_set_self (by rw [hwl]; exact hjl), ht n (List.mem_of_getElem? hn) H5 low H5 (Ex.refl H5) _ fun l H4 zl e4 hl => ⟨by show 2 ≤ sizeLine; decide, fun T zT => ?_⟩⟩
    have hD4 := e4 _ _ hD2
    have nT : T ≠ D := fun z => by rw [z, hD4] at zT; cases zT
    have nlD : l ≠ D := fun z => by rw [z, hD2] at zl; cases zl
    have e5 : Ex H4 (upd H4 T (.tup [.str n, .ref l])) := Ex.new zT
    have nlT : l ≠ T := fun z => by rw [z, zT] at hl; cases hl
    have ll : rs.length ≤ ns.length := by
      have := congrArg List.length hrs
      rw [List.length_map, List.length_take] at this
      omega
    refine ⟨_, e5 _ _ hD4, by rw [List.length_map, sizeLine_eq]; omega, rs ++ [⟨T, n, l⟩], ?_, ?_, fun r hr' => ?_, ?_, fun c o hc => ?_⟩
    · rw [upd_same, List.map_append]
      rfl
    · rw [List.map_append, hrs, List.take_add_one, hn]
      rfl
    · rcases List.mem_append.mp hr' with h | h
      · obtain ⟨h1, h2, h3, h4, h5⟩ := hr r h
        refine ⟨h1, ?_, h3, h4, ?_⟩
        · rw [upd_ne h1]; exact e5 _ _ (e4 _ _ h2)
        · rw [upd_ne h4]; exact e5 _ _ (e4 _ _ h5)
      · rw [List.mem_singleton.mp h]
        refine ⟨nT, ?_, fresh_back low zl, nlD, ?_⟩
        · rw [upd_ne nT]; exact upd_same
        · rw [upd_ne nlD, upd_ne nlT]; exact hl
    · rw [List.map_append]
      refine List.nodup_append.mpr ⟨hnd, by simp, fun a ha b hb e => ?_⟩
      obtain ⟨r, hr1, rfl⟩ := List.mem_map.mp ha
      have hb := List.mem_singleton.mp hb
      have h5 := (hr r hr1).2.2.2.2
      have e2 : r.l = l := e.trans hb
      rw [e2, zl] at h5
      cases h5
    · rw [wo_ne (ne_of_none hc hD), upd_ne (ne_of_none hc hD)]
      exact e5 _ _ (e4 _ _ (low _ _ hc))
  · obtain ⟨rs, hD2, hrs, hr, hnd, ex2⟩ := z
    rw [List.take_length] at hrs
    have low := ex2.trans (wo_ex D H2)
    refine ⟨D, rs.map (·.t), rs.map fun r => ((.inr r.n : Key), V.ref r.l), rfl, sq_of (by rw [hD2, List.map_map]; rfl), ?_, fun d zd => ?_⟩
    · clear hrs hD2 q hnd
      induction rs with
      | nil => exact .nil
      | cons r t ih => exact .cons (st_of (hr r List.mem_cons_self).2.1) (ih fun r' h => hr r' (List.mem_cons_of_mem _ h))
    · have em : mergeK [] (rs.map fun r => ((.inr r.n : Key), V.ref r.l)) = rs.map fun r => ((.inr r.n : Key), V.ref r.l) := by
        refine (mergeK_new ?_ fun k _ h => absurd h (by simp)).trans (List.nil_append _)
        have e1 : (rs.map fun r => ((.inr r.n : Key), V.ref r.l)).map (·.1) = ns.map fun n => (Sum.inr n : Key) := by
          rw [← hrs, List.map_map, List.map_map]
          rfl
        rw [e1]
        exact List.Pairwise.map _ (fun a b h e => h (Sum.inr.inj e)) nd
      rw [em]
      refine q d (rs.map fun r => (r.n, r.l)) _ (by rw [List.map_map]; exact hrs) (low.trans (Ex.new zd)) ⟨?_, fresh_back low zd, fun r hr' => ?_, ?_⟩
      · rw [upd_same, List.map_map]
        rfl
      · obtain ⟨y, hy, rfl⟩ := List.mem_map.mp hr'
        obtain ⟨h1, h2, h3, h4, h5⟩ := hr y hy
        have nd' : y.l ≠ d := ne_of_none h5 zd
        exact ⟨h3, nd', by rw [upd_ne nd']; exact h5⟩
      · rw [List.map_map]
        exact hnd
/-- over a list of names -/
theorem dictC_list {K : PySem.W.Frag} {tl tn : TE} {σ : L2.St} {H1 : Hp} {j : Nat} {a : Addr} {ns : List Str} {Q : VK} (xf : Str → List V) (hl : Ev tl σ H1 (.ref a)) (ha1 : H1 a = some (.lst (ns.map V.str))) (nd : ns.Nodup) (hz : ns.length ≤ 40000) (hj : ∀ x, wipe ((wipe σ [j]).set j (some x)) [j] = wipe σ [j]) (hjl : j < σ.length) (hwl : (wipe σ [j]).length = σ.length)
    (ht : ∀ n ∈ ns, ∀ H2, Ex H1 H2 → EvL tn ((wipe σ [j]).set j (some (.str n))) H2 (xf n)) (q : ∀ d rs H2, rs.map (·.1) = ns → Ex H1 H2 → CpD H1 H2 d xf rs → Q (.ref d) H2) :
    tCB (rDictP K) (tCons (tLc (iList K tl) (gName j) tYes (tTup (tCons (tVar j) (tCons tn tNil))) [j]) tNil) σ H1 Q :=
  hl H1 (Ex.refl H1) _ fun H2 e2 => ⟨a, rfl, ⟨_, sq_of (e2 _ _ ha1)⟩, dictC_at (K := K) (J := Itl K a) (tn := tn) xf (by have := walk_list (K := K) (a := a) (xs := ns.map V.str); rw [List.length_map] at this; exact this) (fun H3 e3 => sq_of ((e2.trans e3) _ _ ha1)) (fun i H x H' y => by
      obtain ⟨rfl, hy⟩ := y
      rw [List.getElem?_map] at hy
      cases hh : ns[i]? with
      | none => rw [hh] at hy; cases hy
      | some z => rw [hh] at hy; exact ⟨rfl, z, rfl, (Option.some.inj hy).symm⟩) nd hz hj hjl hwl (fun n hn H3 e3 => ht n hn H3 (e2.trans e3)) fun d rs H3 h1 e3 c => q d rs H3 h1 (e2.trans e3) ⟨c.at_, fresh_back e2 c.new, fun r hr => ⟨fresh_back e2 (c.row r hr).1, (c.row r hr).2⟩, c.nd⟩⟩
/-- over a dict that is locked meanwhile -/
theorem dictC_keys {K : PySem.W.Frag} {tn : TE} {σ : L2.St} {H : Hp} {i j : Nat} {dm : Addr} {kvs : List (Key × V)} {L : Lib} {Q : VK} (xf : Str → List V) (hi : σ[i]? = some (some (.ref dm))) (hd : H dm = some (.dK kvs)) (hL : LKv H kvs L) (nd : (L.map (·.1)).Nodup) (hz : L.length ≤ 40000) (hj : ∀ x, wipe ((wipe σ [j]).set j (some x)) [j] = wipe σ [j]) (hjl : j < σ.length) (hwl : (wipe σ [j]).length = σ.length)
    (ht : ∀ od, ∀ n ∈ L.map (·.1), ∀ H2, Ex (upd H dm (.frz od (.dK kvs))) H2 → EvL tn ((wipe σ [j]).set j (some (.str n))) H2 (xf n)) (q : ∀ d rs H2, rs.map (·.1) = L.map (·.1) → Ex H H2 → CpD H H2 d xf rs → d ≠ dm → Q (.ref d) H2) :
    tLockE (tCB (rDictP K) (tCons (tLc (iKeys (tVar i)) (gName j) tYes (tTup (tCons (tVar j) (tCons tn tNil))) [j]) tNil)) σ H Q := by
  refine ⟨dm, .dK kvs, hd, trivial, fun od => ?_⟩
  have lk := lkv_len hL
  have wk := walk_keys (d := dm) (o := od) (kvs := kvs)
  rw [lk, ← List.length_map (f := fun r : Str × Prog => r.1)] at wk
  refine ⟨.ref dm, hi, dm, od, rfl, .inl ⟨kvs, upd_same, ?_⟩⟩
  refine dictC_at (K := K) (Q := fun v H' => H' dm = some (.frz od (.dK kvs)) ∧ Q v (upd H' dm (.dK kvs))) (J := Itk dm od kvs) (tn := tn) (ns := L.map (·.1)) xf wk (fun H2 e => e _ _ upd_same) (fun m H3 x H4 y => ?_) nd (by rw [List.length_map]; exact hz) hj hjl hwl (fun n hn H2 e2 => ht od n hn H2 e2) fun d rs H2 h1 e2 c => ?_
  · obtain ⟨rfl, k, v, hk, rfl⟩ := y
    refine ⟨rfl, ?_⟩
    have hm : m < L.length := by
      have := (List.getElem?_eq_some_iff.mp hk).1
      omega
    obtain ⟨u, h1, _⟩ := lkv_get hL (List.getElem?_eq_getElem hm)
    rw [hk] at h1
    cases h1
    exact ⟨L[m].1, by rw [List.getElem?_map, List.getElem?_eq_getElem hm]; rfl, rfl⟩
  · have nd0 : ∀ {b : Addr}, upd H dm (.frz od (.dK kvs)) b = none → b ≠ dm ∧ H b = none := fun {b} hb => by
      have nb : b ≠ dm := fun e => by rw [e, upd_same] at hb; cases hb
      exact ⟨nb, by rw [upd_ne nb] at hb; exact hb⟩
    obtain ⟨n1, n2⟩ := nd0 c.new
    refine ⟨e2 _ _ upd_same, q d rs _ h1 (fun b o hb => ?_) ⟨?_, n2, fun r hr => ?_, c.nd⟩ n1⟩
    · by_cases e : b = dm
      · rw [e] at hb ⊢
        rw [hd] at hb
        rw [upd_same]
        exact hb
      · rw [upd_ne e]
        exact e2 _ _ (by rw [upd_ne e]; exact hb)
    · rw [upd_ne n1]
      exact c.at_
    · obtain ⟨r1, r2, r3⟩ := c.row r hr
      obtain ⟨m1, m2⟩ := nd0 r1
      exact ⟨m2, r2, by rw [upd_ne m1]; exact r3⟩
/-- such a dict holds the library again -/
theorem CpD.lib {H1 H : Hp} {d : Addr} {xf : Str → List V} {rs : List (Str × Addr)} {L : Lib} (c : CpD H1 H d xf rs) (hn : rs.map (·.1) = L.map (·.1)) (nd : (L.map (·.1)).Nodup) (hx : ∀ r ∈ L, DtAll H (xf r.1) (r.2.map PyData.tuple)) : Dt H (.ref d) (libD L) := by
  refine .dct c.at_ ?_
  have go : ∀ {rs : List (Str × Addr)} {L : Lib}, (∀ r ∈ rs, H r.2 = some (.lst (xf r.1))) → rs.map (·.1) = L.map (·.1) → (∀ r ∈ L, DtAll H (xf r.1) (r.2.map PyData.tuple)) → LKv H (rs.map fun r => ((.inr r.1 : Key), V.ref r.2)) L := by
    intro rs
    induction rs with
    | nil =>
      intro L _ hn _
      cases L with
      | nil => exact .nil
      | cons y L => simp at hn
    | cons r rs ih =>
      intro L hr hn hx
      cases L with
      | nil => simp at hn
      | cons y L =>
        rw [List.map_cons, List.map_cons] at hn
        injection hn with e1 e2
        obtain ⟨yn, yp⟩ := y
        have e1 : r.1 = yn := e1
        subst e1
        exact DtKv.cons (k := Sum.inr r.1) (.lst (hr r List.mem_cons_self) (hx _ List.mem_cons_self)) (ih (fun z hz => hr z (List.mem_cons_of_mem _ hz)) e2 fun z hz => hx z (List.mem_cons_of_mem _ hz))
  exact go (fun r hr => (c.row r hr).2.2) hn hx
end Cr
namespace Cr
open PySem PySem.Spec PyProof.Rows L2 Evl
theorem dt_wordy {H H' : Hp} {v : V} {d : PyData} (h : Dt H v d) (w : wordy d = true) : Dt H' v d := by
  cases h with
  | str x => exact .str x
  | int i => exact .int i
  | _ => exact nomatch w
theorem dts_wordy {H H' : Hp} : ∀ {vs : List V} {ds : List PyData}, DtAll H vs ds → (∀ d ∈ ds, wordy d = true) → DtAll H' vs ds
  | _, _, .nil, _ => .nil
  | _, _, .cons h t, w => .cons (dt_wordy h (w _ List.mem_cons_self)) (dts_wordy t fun d hd => w d (List.mem_cons_of_mem _ hd))
theorem dt_step {H H' : Hp} {v : V} {ds : List PyData} (h : Dt H v (.tuple ds)) (w : isStep (.tuple ds) = true) (k : Tps H H') : Dt H' v (.tuple ds) := by
  cases h with
  | tup h t => exact .tup (k _ _ h) (dts_wordy t (step_wordy w).2)
theorem dts_step {H H' : Hp} (k : Tps H H') : ∀ {vs : List V} {p : Prog}, DtAll H vs (p.map PyData.tuple) → (∀ ds ∈ p, isStep (.tuple ds) = true) → DtAll H' vs (p.map PyData.tuple)
  | [], [], _, _ => .nil
  | v :: vs, ds :: p, h, w => by
    cases h with
    | cons h t => exact .cons (dt_step h (w _ List.mem_cons_self) k) (dts_step k t fun d hd => w d (List.mem_cons_of_mem _ hd))
  | [], _ :: _, h, _ => nomatch h
  | _ :: _, [], h, _ => nomatch h
end Cr
namespace Cr
open PySem PySem.Spec PyProof.Rows L2 Evl
/-! ### libraries while the pot is drawn from -/
theorem prog_wo {H : Hp} {p : Addr} {x y : Int} {v : V} {pr : Prog} (hp : H p = some (.lst [.int x, .int y])) (h : Dt H v (progD pr)) (w : ∀ ds ∈ pr, isStep (.tuple ds) = true) : Dt (wo p H) v (progD pr) := by
  obtain ⟨a, xs, rfl, ha, hxs⟩ := dt_lst h
  have ap : a ≠ p := fun e => by
    rw [e, hp] at ha
    cases ha
    cases pr with
    | nil => cases hxs
    | cons ds pr =>
      have hxs : DtAll H [V.int x, V.int y] (PyData.tuple ds :: pr.map PyData.tuple) := hxs
      cases hxs with
      | cons h0 _ => cases h0
  refine .lst (by rw [wo_ne ap]; exact ha) (dts_step (fun c ys hc => ?_) hxs w)
  rw [wo_ne (fun e => by rw [e, hp] at hc; cases hc)]
  exact hc
theorem lkv_wo {H : Hp} {p : Addr} {x y : Int} (hp : H p = some (.lst [.int x, .int y])) : ∀ {L : Lib} {kvs : List (Key × V)}, StepsV L → LKv H kvs L → LKv (wo p H) kvs L
  | [], kvs, _, h => by rw [lkv_nil h]; exact .nil
  | r :: L, kvs, w, h => by
    obtain ⟨v, kvs', rfl, hv, h⟩ := lkv_inv h
    exact .cons (k := Sum.inr r.1) (prog_wo hp hv (w r List.mem_cons_self)) (lkv_wo hp (fun y hy => w y (List.mem_cons_of_mem _ hy)) h)
theorem lib_drew {H H' : Hp} {p d : Addr} {L : Lib} (r : Drew p H H') (pot : Pot H p) (w : StepsV L) (h : Dt H (.ref d) (libD L)) : Dt H' (.ref d) (libD L) := by
  obtain ⟨x, y, hp, _⟩ := pot
  obtain ⟨kvs, hk, hkv⟩ := dt_dct h
  have dp : d ≠ p := fun e => by rw [e, hp] at hk; cases hk
  exact .dct (r.at dp hk) (DtKv.ex (wo_ex p H') (DtKv.ex r.ex (lkv_wo hp w hkv)))
theorem LbAt.drew {C x : Addr} {H H' : Hp} {p : Addr} {L : Lib} (h : LbAt C H x L) (r : Drew p H H') (pot : Pot H p) (w : StepsV L) : LbAt C H' x L := by
  obtain ⟨i, j, hp, _⟩ := pot
  obtain ⟨dx, dd, kvs, h1, h2, h3⟩ := h.ob
  exact ⟨dx, dd, kvs, r.at (fun e => by rw [e, hp] at h1; cases h1) h1, r.at (fun e => by rw [e, hp] at h2; cases h2) h2, DtKv.ex (wo_ex p H') (DtKv.ex r.ex (lkv_wo hp w h3))⟩
end Cr
/-! a dict of programs changed in place; names picked out of it -/
namespace Cr
open PySem PySem.Spec PyProof.Rows L2 Evl
def putL (L : Lib) (n : Str) (pr : Prog) : Lib := L.map fun r => if r.1 = n then (n, pr) else r
theorem putL_names (L : Lib) (n : Str) (pr : Prog) : (putL L n pr).map (·.1) = L.map (·.1) := by
  unfold putL
  rw [List.map_map]
  refine List.map_congr_left fun r _ => ?_
  show (if r.1 = n then (n, pr) else r).1 = r.1
  split
  · rename_i e
    exact e.symm
  · rfl
theorem mem_put {L : Lib} {n : Str} {pr : Prog} {r : Str × Prog} (h : r ∈ putL L n pr) : r = (n, pr) ∨ r ∈ L := by
  obtain ⟨y, hy, e⟩ := List.mem_map.mp h
  split at e
  · exact .inl e.symm
  · exact .inr (by rw [← e]; exact hy)
theorem putL_ok {L : Lib} {n : Str} {pr : Prog} (ok : LibOk L) (hn : n ∈ L.map (·.1)) (v : ProgV pr) (m : ∀ ds ∈ pr, okMod (L.map (·.1)) ds = true) : LibOk (putL L n pr) := by
  have nm : isNameS n = true := by
    obtain ⟨r, hr, rfl⟩ := List.mem_map.mp hn
    exact ok.v.nm r hr
  refine ⟨⟨fun r hr => ?_, by rw [putL_names]; exact ok.v.nd, by unfold putL; rw [List.length_map]; exact ok.v.l1, by unfold putL; rw [List.length_map]; exact ok.v.l40, fun r hr => ?_⟩, fun r hr => ?_⟩
  · rcases mem_put hr with rfl | h
    · exact nm
    · exact ok.v.nm r h
  · rcases mem_put hr with rfl | h
    · exact v
    · exact ok.v.ok r h
  · rw [putL_names]
    rcases mem_put hr with rfl | h
    · exact m
    · exact ok.mi r h
theorem lkv_put {H : Hp} {n : Str} {pr : Prog} {v : V} (hv : Dt H v (progD pr)) {L : Lib} {kvs : List (Key × V)} (h : LKv H kvs L) (hn : n ∈ L.map (·.1)) : LKv H (putK kvs (.inr n) v) (putL L n pr) := by
  have ka := lkv_keys h
  have any : (kvs.any fun kv => decide (kv.1 = (.inr n : Key))) = true := by
    rw [List.any_eq_true]
    have : (Sum.inr n : Key) ∈ kvs.map (·.1) := by
      rw [ka]
      obtain ⟨r, hr, rfl⟩ := List.mem_map.mp hn
      exact List.mem_map.mpr ⟨r, hr, rfl⟩
    obtain ⟨kv, hkv, e⟩ := List.mem_map.mp this
    exact ⟨kv, hkv, decide_eq_true e⟩
  unfold putK
  rw [if_pos any]
  clear any ka hn
  induction L generalizing kvs with
  | nil =>
    rw [lkv_nil h]
    exact .nil
  | cons r L ih =>
    obtain ⟨u, kvs', rfl, hu, h'⟩ := lkv_inv h
    have t := ih h'
    show LKv H ((if (Sum.inr r.1 : Key) = Sum.inr n then _ else _) :: _) ((if r.1 = n then _ else _) :: _)
    by_cases e : r.1 = n
    · rw [if_pos (congrArg Sum.inr e), if_pos e]
      refine DtKv.cons (k := (.inr r.1 : Key)) (d := progD pr) hv t |> fun z => ?_
      rw [e] at z ⊢
      exact z
    · rw [if_neg (fun z => e (Sum.inr.inj z)), if_neg e]
      exact DtKv.cons (k := (.inr r.1 : Key)) hu t
theorem ev_dgetR {td ty : TE} {σ : L2.St} {H : Hp} {a : Addr} {kvs : List (Key × V)} {x : Str} {v : V} (hd : Ev td σ H (.ref a)) (hy : Ev ty σ H (.str x)) (h : Rd H a (.dK kvs)) (hv : valV kvs (.inr x) = some v) : Ev (tDGet td ty) σ H v := fun H1 e Q q =>
  hd H1 e _ fun H2 e2 => hy H2 (e.trans e2) _ fun H3 e3 => ⟨a, v, rfl, .inl ⟨kvs, .inr x, ex_rd ((e.trans e2).trans e3) h, rfl, hv.symm⟩, q H3 (e2.trans e3)⟩
theorem lkv_at {H : Hp} {kvs : List (Key × V)} {L : Lib} {n : Str} (h : LKv H kvs L) (hn : n ∈ L.map (·.1)) : ∃ v, valV kvs (.inr n) = some v ∧ Dt H v (progD (progL L n)) := by
  rcases lkv_val n h with ⟨z, _⟩ | ⟨r', v', hr', hv', dv'⟩
  · obtain ⟨r, hr, rfl⟩ := List.mem_map.mp hn
    unfold rowL at z
    rw [List.find?_eq_none] at z
    exact absurd (decide_eq_true rfl) (z r hr)
  · refine ⟨v', hv', ?_⟩
    unfold progL
    rw [hr']
    exact dv'
theorem progL_at {L : Lib} {n : Str} (nd : (L.map (·.1)).Nodup) (hn : n ∈ L.map (·.1)) : (n, progL L n) ∈ L := by
  obtain ⟨r, hr, rfl⟩ := List.mem_map.mp hn
  rw [progL_in nd hr]
  exact hr
theorem evd_prog {td ty : TE} {σ : L2.St} {H : Hp} {D : Addr} {n : Str} {L : Lib} (hd : Ev td σ H (.ref D)) (hy : Ev ty σ H (.str n)) (hD : Dt H (.ref D) (libD L)) (hn : n ∈ L.map (·.1)) : EvD (tDGet td ty) σ H (progD (progL L n)) := by
  obtain ⟨kvs, hk, hkv⟩ := dt_dct hD
  obtain ⟨v, h1, h2⟩ := lkv_at (L := L) hkv hn
  exact evd_of (ev_dgetR hd hy (.inl hk) h1) h2
/-- the dict with another program at a name -/
theorem dput_lib {H : Hp} {D : Addr} {n : Str} {L : Lib} {pr : Prog} {v : V} (hD : Dt H (.ref D) (libD L)) (s : StepsV L) (sp : ∀ ds ∈ pr, isStep (.tuple ds) = true) (l40 : L.length ≤ 40) (hn : n ∈ L.map (·.1)) (hv : Dt H v (progD pr)) :
    ∃ o, DPut H D (.str n) v (upd H D o) ∧ Dt (upd H D o) (.ref D) (libD (putL L n pr)) ∧ KeepLT H (upd H D o) := by
  obtain ⟨kvs, hk, hkv⟩ := dt_dct hD
  have hL : LKv H kvs L := hkv
  have kp : ∀ o, KeepLT H (upd H D o) := fun o => keepLT_upd (fun xs h => by rw [hk] at h; cases h) (fun xs h => by rw [hk] at h; cases h)
  refine ⟨_, DPut.k (k := .inr n) hk (by rw [lkv_len hL, sizeLine_eq]; omega), .dct upd_same ?_, kp _⟩
  exact lkv_put (Dt.keepLT (kp _) (ndt_prog sp) hv) (lkv_keep (kp _) s hL) hn
/-- d[n] = a program -/
theorem s_putL {te td ty : TE} {σ : L2.St} {H : Hp} {D : Addr} {n : Str} {L : Lib} {pr : Prog} {En : Ends} (h : EvD te σ H (progD pr)) (hd : Ev td σ H (.ref D)) (hy : Ev ty σ H (.str n)) (hD : Dt H (.ref D) (libD L)) (s : StepsV L) (sp : ∀ ds ∈ pr, isStep (.tuple ds) = true) (l40 : L.length ≤ 40) (hn : n ∈ L.map (·.1))
    (k : ∀ o H', Ex H H' → Dt (upd H' D o) (.ref D) (libD (putL L n pr)) → En.nx σ (upd H' D o)) : sDPut td ty te En σ H :=
  h H (Ex.refl H) _ fun v H1 e1 hv => hd H1 e1 _ fun H2 e2 => hy H2 (e1.trans e2) _ fun H3 e3 => by
    have e03 := (e1.trans e2).trans e3
    obtain ⟨o, h1, h2, _⟩ := dput_lib (Dt.ex e03 hD) s sp l40 hn (Dt.ex (e2.trans e3) hv)
    exact ⟨D, _, rfl, h1, k o H3 e03 h2⟩
abbrev rSrtD : List V → Hp → VK → Prop := fun xs H Q => ∃ (a : Addr) (kvs : List (Key × V)) (ks : List Str), xs = [.ref a] ∧ Rd H a (.dK kvs) ∧ kvs.map (·.1) = ks.map Sum.inr ∧ ks.length < 64 ∧ ∀ ys p, ys.Perm ks → sortedS ys = true → H p = none → Q (.ref p) (upd H p (.lst (ys.map V.str)))
theorem el_srtD {td : TE} {σ : L2.St} {H : Hp} {d : Addr} {L : Lib} (h : Ev td σ H (.ref d)) (hd : Dt H (.ref d) (libD L)) (l40 : L.length ≤ 40) : EvL (tCB rSrtD (tCons td tNil)) σ H ((srtS (L.map (·.1))).map V.str) := fun H1 e1 Q q =>
  h H1 e1 _ fun H2 e2 => by
    obtain ⟨kvs, hk, hkv⟩ := dt_dct hd
    have hL : LKv H kvs L := hkv
    refine ⟨d, kvs, L.map (·.1), rfl, .inl ((e1.trans e2) _ _ hk), by rw [lkv_keys hL, List.map_map]; rfl, by rw [List.length_map]; omega, fun ys S hp2 hs2 zS => ?_⟩
    have eys := sorted_is hp2 hs2
    subst eys
    exact q S _ (fresh_back e2 zS) (e2.trans (Ex.new zS)) upd_same
/-- a name of the dict is drawn -/
theorem pick_name {tp td : TE} {E : XK} {σ : L2.St} {H : Hp} {p d : Addr} {L : Lib} {Q : VK} (hp : Ev tp σ H (.ref p)) (h : Ev td σ H (.ref d)) (hd : Dt H (.ref d) (libD L)) (pot : Pot H p) (l1 : 1 ≤ L.length) (l40 : L.length ≤ 40)
    (q : ∀ n H', n ∈ L.map (·.1) → Drew p H H' → Q (.str n) H') : tCall spChoice [] E (tCons tp (tCons (tCB rSrtD (tCons td tNil)) tNil)) σ H Q :=
  hp H (Ex.refl H) _ fun H2 e2 => el_srtD h hd l40 H2 e2 _ fun O H3 zO e3 hO => by
    have pot3 := pot.ex (e2.trans e3)
    have Op : O ≠ p := (Drew.refl (pot.ex e2)).neq zO
    have ls : ((srtS (L.map (·.1))).map V.str).length = L.length := by rw [List.length_map, (srtS_perm _).length_eq, List.length_map]
    refine ⟨p, pot3, .inl ⟨O, _, rfl, Op, hO, by omega, by omega, fun v H' hv r => ?_⟩⟩
    obtain ⟨n, hn, rfl⟩ := List.mem_map.mp hv
    exact q n H' ((srtS_perm _).mem_iff.mp hn) ((Drew.of pot (e2.trans e3)).trans r)
/-- the lists of the dict's programs, each made anew -/
def rowsOf (H : Hp) (kvs : List (Key × V)) (n : Str) : List V :=
  match valV kvs (.inr n) with
  | some (.ref a) => (match H a with
    | some (.lst xs) => xs
    | _ => [])
  | _ => []
theorem rows_of {H : Hp} {kvs : List (Key × V)} {L : Lib} {n : Str} (h : LKv H kvs L) (hn : n ∈ L.map (·.1)) : ∃ a, valV kvs (.inr n) = some (.ref a) ∧ H a = some (.lst (rowsOf H kvs n)) ∧ DtAll H (rowsOf H kvs n) ((progL L n).map PyData.tuple) := by
  obtain ⟨v, h1, h2⟩ := lkv_at h hn
  obtain ⟨a, xs, rfl, ha, hxs⟩ := dt_lst h2
  have e : rowsOf H kvs n = xs := by
    unfold rowsOf
    rw [h1]
    dsimp only
    rw [ha]
  exact ⟨a, h1, by rw [e]; exact ha, by rw [e]; exact hxs⟩
abbrev rListK (K : PySem.W.Frag) : List V → Hp → VK → Prop := fun xs H Q => ∃ p ys, xs = [V.ref p] ∧ (SqL K H p ys ∨ SqT K H p ys) ∧ ∀ l, H l = none → Q (.ref l) (upd H l (.lst ys))
/-- list(d[n]), d locked or not -/
theorem el_rows {K : PySem.W.Frag} {td ty : TE} {σ : L2.St} {H0 H : Hp} {d : Addr} {kvs : List (Key × V)} {L : Lib} {n : Str} (hd : Ev td σ H (.ref d)) (hy : Ev ty σ H (.str n)) (hk : Rd H d (.dK kvs)) (hL : LKv H0 kvs L) (hn : n ∈ L.map (·.1)) (kp : ∀ a xs, H0 a = some (.lst xs) → H a = some (.lst xs)) :
    EvL (tCB (rListK K) (tCons (tDGet td ty) tNil)) σ H (rowsOf H0 kvs n) := by
  obtain ⟨a, h1, h2, _⟩ := rows_of hL hn
  exact fun H1 e1 Q q => ev_dgetR hd hy hk h1 H1 e1 _ fun H2 e2 => ⟨a, _, rfl, .inl (sq_of ((e1.trans e2) _ _ (kp _ _ h2))), fun l zl => q l _ (fresh_back e2 zl) (e2.trans (Ex.new zl)) upd_same⟩
/-- dict([(n, list(d[n])) for n in d]) -/
theorem copy_lib {K : PySem.W.Frag} {σ : L2.St} {H : Hp} {i j : Nat} {d : Addr} {L : Lib} {Q : VK} (hi : σ[i]? = some (some (.ref d))) (hd : Dt H (.ref d) (libD L)) (nd : (L.map (·.1)).Nodup) (l40 : L.length ≤ 40) (hj : ∀ x, wipe ((wipe σ [j]).set j (some x)) [j] = wipe σ [j]) (hjl : j < σ.length) (hwl : (wipe σ [j]).length = σ.length)
    (hi2 : ∀ x, ((wipe σ [j]).set j (some x))[i]? = some (some (.ref d))) (hj2 : ∀ x, ((wipe σ [j]).set j (some x))[j]? = some (some x))
    (q : ∀ D H2, H D = none → Ex H H2 → Dt H2 (.ref D) (libD L) → (∃ xf rs, CpD H H2 D xf rs ∧ rs.map (·.1) = L.map (·.1) ∧ ∀ r ∈ L, DtAll H (xf r.1) (r.2.map PyData.tuple)) → Q (.ref D) H2) :
    tLockE (tCB (rDictP K) (tCons (tLc (iKeys (tVar i)) (gName j) tYes (tTup (tCons (tVar j) (tCons (tCB (rListK K) (tCons (tDGet (tVar i) (tVar j)) tNil)) tNil))) [j]) tNil)) σ H Q := by
  obtain ⟨kvs, hk, hkv⟩ := dt_dct hd
  have hL : LKv H kvs L := hkv
  have hx : ∀ r ∈ L, DtAll H (rowsOf H kvs r.1) (r.2.map PyData.tuple) := fun r hr => by
    obtain ⟨a, _, _, z⟩ := rows_of hL (List.mem_map_of_mem hr)
    rw [progL_in nd hr] at z
    exact z
  refine dictC_keys (K := K) (rowsOf H kvs) hi hk hL nd (by omega) hj hjl hwl (fun od n hn H2 e2 => ?_) (fun D rs H2 hn e2 c _ => q D H2 c.new e2 (c.lib hn nd fun r hr => DtAll.ex e2 (hx r hr)) ⟨_, rs, c, hn, hx⟩)
  refine el_rows (ev_var (hi2 _)) (ev_var (hj2 _)) (.inr ⟨od, e2 _ _ upd_same⟩) hL hn fun a xs ha => e2 _ _ ?_
  rw [upd_ne (fun e => by rw [e, hk] at ha; cases ha)]
  exact ha
end Cr
/-! k14: fixed pairs -/
namespace Cr
open PySem PySem.Spec PyProof.Rows L2 Evl
/-- a list of pairs of data walked by two names -/
theorem el_data2 {K : PySem.W.Frag} {wl te : TE} {σ : L2.St} {H : Hp} {i j : Nat} {ds : List PyData} (v : PyData → V) (hl : EvD wl σ H (.list ds)) (hz : ds.length ≤ 40000) (hw : ∀ x y, wipe (((wipe σ [i, j]).set i (some x)).set j (some y)) [i, j] = wipe σ [i, j]) (hp : ∀ d ∈ ds, ∃ d1 d2, d = .tuple [d1, d2])
    (he : ∀ x y d1 d2 H1, Ex H H1 → PyData.tuple [d1, d2] ∈ ds → Dt H1 x d1 → Dt H1 y d2 → Ev te (((wipe σ [i, j]).set i (some x)).set j (some y)) H1 (v (.tuple [d1, d2]))) : EvL (tLc (iList K wl) (gTup K 2 (gCons (gName i) (gCons (gName j) gNil))) tYes te [i, j]) σ H (ds.map v) := by
  have lc := el_lcW (wi := iList K wl) (g := gTup K 2 (gCons (gName i) (gCons (gName j) gNil))) (tt := tYes) (te := te) (vs := [i, j]) (σ := σ) (H := H) (n := ds.length) (Y := YData ds) (fun _ => true) (fun i => v (ds.getD i .none)) hz
    (fun H1 e1 R r => hl H1 e1 _ fun u H2 e2 du => by
      obtain ⟨a, xs, rfl, ha, hxs⟩ := dt_lst du
      exact ⟨a, rfl, ⟨_, sq_of ha⟩, r H2 _ _ (walk_data (K := K) hxs.length) (fun _ _ e z => ⟨ex_l e z.1, DtAll.ex e z.2⟩) e2 ⟨sq_of ha, hxs⟩⟩)
    (fun m y H1 H2 e1 hi hy => by
      obtain ⟨rfl, d, hd, dy⟩ := hy
      have gd : ds.getD m .none = d := by rw [List.getD_eq_getElem?_getD, hd]; rfl
      have mem := List.mem_of_getElem? hd
      obtain ⟨d1, d2, rfl⟩ := hp d mem
      cases dy with
      | @tup T us _ hT hus =>
        cases hus with
        | @cons x _ _ _ h1 hr =>
          cases hr with
          | @cons z _ _ _ h2 hr2 =>
            cases hr2
            have ev := he x z d1 d2 H2 e1 mem h1 h2
            rw [← gd] at ev
            exact ⟨Ex.refl _, _, hw x z, fun R r => pair_go hT r, fun H6 _ Q q => q H6 (Ex.refl H6), fun _ => ev⟩)
  have e : given ds.length (fun _ => true) (fun i => v (ds.getD i .none)) = ds.map v := by
    have z := given_flt ds .none (fun _ => true) v
    rw [List.filter_eq_self.mpr fun _ _ => rfl] at z
    exact z
  rw [e] at lc
  exact lc
abbrev sFix : Stmt := topS 46
abbrev nFix : List Str := ["_law_rows", "_law_pairs", "_law_due"]
theorem scFix : FnScope nFix [] (defScope sFix) := ⟨rfl, rfl, rfl, by decide +kernel, rfl, by decide +kernel, by decide +kernel⟩
abbrev ls0 : PyData := .list []
abbrev lsN : PyData := .list [.none]
def fail31 : PyData := .list (List.replicate 31 (.tuple [.str "fail"]))
def fixR : List (PrS × PyData × Int) := [([], .none, -1), ([("m", lsN), ("k", ls0), ("k", ls0)], .str "k", -1), ([("A", ls0), ("m", ls0)], .str "A", -1), ([("z", ls0), ("z", ls0), ("a", ls0), ("a", ls0)], .str "z", -1), ([("m", ls0), ("m", lsN)], .str "m", -1), ([("m", fail31)], .str "m", -1), ([("b", lsN), ("a", lsN)], .str "b", 0)]
def rowD (r : PrS × PyData × Int) : PyData := .tuple [.list (r.1.map fun p => .tuple [.str p.1, p.2]), .list [r.2.1, .int r.2.2]]
theorem fix_due : ∀ r ∈ fixR, ofDue r.1 = some (r.2.1, r.2.2) := by
  intro r hr
  simp only [fixR, List.mem_cons, List.not_mem_nil, or_false] at hr
  rcases hr with rfl | rfl | rfl | rfl | rfl | rfl | rfl <;> kernel_rfl
def fixB (r : PrS × PyData × Int) : Bool := (r.1.all fun p => sm (.str p.1) && sm p.2) && (decide (r.1.length ≤ 4) && (SeqAt.shaped (.list [r.2.1, .int r.2.2]) && PyData.eqv (.list [r.2.1, .int r.2.2]) (.list [r.2.1, .int r.2.2])))
theorem fix_b : fixR.all fixB = true := by decide +kernel
theorem prs_of {H : Hp} : ∀ {ss : PrS} {xs : List V}, DtAll H xs (ss.map fun p => .tuple [.str p.1, p.2]) → ∃ ts : List Addr, xs = ts.map V.ref ∧ PrsAt H ts (prD ss)
  | [], xs, h => by
    cases h
    exact ⟨[], rfl, .nil⟩
  | p :: ss, xs, h => by
    cases h with
    | @cons x xs' _ _ h1 hr =>
      obtain ⟨ts, rfl, ht⟩ := prs_of hr
      cases h1 with
      | @tup T us _ hT hus =>
        cases hus with
        | @cons kv _ _ _ k1 kr =>
          cases kr with
          | @cons v _ _ _ k2 kr2 =>
            cases kr2
            exact ⟨T :: ts, rfl, .cons ⟨kv, v, hT, k1, k2⟩ ht⟩
def spFix : Sp := fun vs H Q _ => vs = [] ∧ ∀ H', Ex H H' → Q (.bl true) H'
section
variable {P : Program} {w : World} {K : PySem.W.Frag} {mg : Str → Option Value} {base : Heap}
theorem q_asgDt {te : TE} {i : Nat} {tz : TS} {D : Ends} {σ : L2.St} {H : Hp} {d : PyData} (h : EvD te σ H d) (k : ∀ v H1, Ex H H1 → Dt H1 v d → tz D (σ.set i (some v)) H1) : tSeq (tAsg te (gName i)) tz D σ H := h H (Ex.refl H) _ k
theorem ok_fix {f C : Addr} {fd : FuncData} {k n : Nat} (F : Fun K "_law_fixed_pairs_right" "_law_fixed_pairs_right" sFix f fd) (B : Blt mg) (h2n : 3 ≤ n) (h1 : HasO P w K mg base k "_law_of_pairs" ["_law_pairs"] (spOfP C n)) : FnOk P w K mg base CX0 (k + 1) f fd [] spFix := by
  obtain ⟨f1, d1, G1, b1, k1, g1⟩ := h1.ex
  refine F.ok scFix (fun vs H Q E h => by obtain ⟨rfl, _⟩ := h; rfl) (fun cdv A outer s H vs Q E hr h => ?_)
  obtain ⟨rfl, q⟩ := h
  refine ⟨_, pss_cons (ps_set (i := 0) scFix.nd rfl (.inl rfl) (pe_lst (pa_cons (pe_tup (pa_cons (pe_lst pa_nil) (pa_cons (pe_lst (pa_cons pe_non (pa_cons (pe_un un_neg pe_int) pa_nil))) pa_nil))) (pa_cons (pe_tup (pa_cons (pe_lst (pa_cons (pe_tup (pa_cons pe_str (pa_cons (pe_lst (pa_cons pe_non pa_nil)) pa_nil))) (pa_cons (pe_tup (pa_cons pe_str (pa_cons (pe_lst pa_nil) pa_nil))) (pa_cons (pe_tup (pa_cons pe_str (pa_cons (pe_lst pa_nil) pa_nil))) pa_nil)))) (pa_cons (pe_lst (pa_cons pe_str (pa_cons (pe_un un_neg pe_int) pa_nil))) pa_nil))) (pa_cons (pe_tup (pa_cons (pe_lst (pa_cons (pe_tup (pa_cons pe_str (pa_cons (pe_lst pa_nil) pa_nil))) (pa_cons (pe_tup (pa_cons pe_str (pa_cons (pe_lst pa_nil) pa_nil))) pa_nil))) (pa_cons (pe_lst (pa_cons pe_str (pa_cons (pe_un un_neg pe_int) pa_nil))) pa_nil))) pa_nil)))))
    (pss_cons (ps_set (i := 0) scFix.nd rfl (.inl rfl) (pe_op op_cat (pv 0) (pe_lst (pa_cons (pe_tup (pa_cons (pe_lst (pa_cons (pe_tup (pa_cons pe_str (pa_cons (pe_lst pa_nil) pa_nil))) (pa_cons (pe_tup (pa_cons pe_str (pa_cons (pe_lst pa_nil) pa_nil))) (pa_cons (pe_tup (pa_cons pe_str (pa_cons (pe_lst pa_nil) pa_nil))) (pa_cons (pe_tup (pa_cons pe_str (pa_cons (pe_lst pa_nil) pa_nil))) pa_nil))))) (pa_cons (pe_lst (pa_cons pe_str (pa_cons (pe_un un_neg pe_int) pa_nil))) pa_nil))) (pa_cons (pe_tup (pa_cons (pe_lst (pa_cons (pe_tup (pa_cons pe_str (pa_cons (pe_lst pa_nil) pa_nil))) (pa_cons (pe_tup (pa_cons pe_str (pa_cons (pe_lst (pa_cons pe_non pa_nil)) pa_nil))) pa_nil))) (pa_cons (pe_lst (pa_cons pe_str (pa_cons (pe_un un_neg pe_int) pa_nil))) pa_nil))) pa_nil)))))
    (pss_cons (ps_set (i := 0) scFix.nd rfl (.inl rfl) (pe_op op_cat (pv 0) (pe_lst (pa_cons (pe_tup (pa_cons (pe_lst (pa_cons (pe_tup (pa_cons pe_str (pa_cons (pe_op op_rep (pe_lst (pa_cons (pe_tup (pa_cons pe_str pa_nil)) pa_nil)) pe_int) pa_nil))) pa_nil)) (pa_cons (pe_lst (pa_cons pe_str (pa_cons (pe_un un_neg pe_int) pa_nil))) pa_nil))) (pa_cons (pe_tup (pa_cons (pe_lst (pa_cons (pe_tup (pa_cons pe_str (pa_cons (pe_lst (pa_cons pe_non pa_nil)) pa_nil))) (pa_cons (pe_tup (pa_cons pe_str (pa_cons (pe_lst (pa_cons pe_non pa_nil)) pa_nil))) pa_nil))) (pa_cons (pe_lst (pa_cons pe_str (pa_cons pe_int pa_nil))) pa_nil))) pa_nil)))))
    (pss_one (ps_ret (pe_callB (cr_all rfl) (by rfl) B.all bAll (pa_cons (pe_lc (own := [("_law_pairs", 1), ("_law_due", 2)]) (g := gTup K 2 (gCons (gName 1) (gCons (gName 2) gNil))) (tt := tYes) (te := tOp rEqDt (tCall (spOfP C n) [] E0 (tCons (tVar 1) tNil)) (tVar 2)) rfl scFix.nd (pi_list (pv 0)) (blkOk_by (own := [("_law_pairs", 1), ("_law_due", 2)]) (N := nFix) (sc := defScope sFix) (by decide +kernel))
      (fun _ _ _ _ _ => by exact pg_tup rfl (pgs_cons (pg_name (i := 1) scFix.nd rfl (Or.inl rfl)) (pgs_cons (pg_name (i := 2) scFix.nd rfl (Or.inl rfl)) pgs_nil))) (fun _ _ _ _ _ => pts_nil)
      (fun _ _ _ _ _ => by exact pe_cmpR (op_eqDt hr.units) (pe_call (E := E0) G1 hr (by rfl) g1 k1 b1 .nil pass0 (pa_cons (pv 1) pa_nil)) (pv 2) (nomark _))) pa_nil)))))), ?_⟩
  have neg1 : ∀ {σ : L2.St} {H1 : Hp}, Ev (tUn (rU fun i => .int (-i)) (tC (.int 1))) σ H1 (.int (-1)) := fun {σ H1} => ev_un ev_c fun H2 _ Q q => ⟨1, rfl, q H2 (Ex.refl H2)⟩
  refine q_asgDt (evd_lst (evda_cons (evd_tup (evda_cons (evd_lst evda_nil (by show 0 ≤ 1000; decide)) (evda_cons (evd_lst (evda_cons evd_non (evda_cons (evd_of neg1 (.int _)) evda_nil)) (by show 2 ≤ 1000; decide)) evda_nil)) (by show 2 ≤ 1000; decide)) (evda_cons (evd_tup (evda_cons (evd_lst (evda_cons (evd_tup (evda_cons evd_str (evda_cons (evd_lst (evda_cons evd_non evda_nil) (by show 1 ≤ 1000; decide)) evda_nil)) (by show 2 ≤ 1000; decide)) (evda_cons (evd_tup (evda_cons evd_str (evda_cons (evd_lst evda_nil (by show 0 ≤ 1000; decide)) evda_nil)) (by show 2 ≤ 1000; decide)) (evda_cons (evd_tup (evda_cons evd_str (evda_cons (evd_lst evda_nil (by show 0 ≤ 1000; decide)) evda_nil)) (by show 2 ≤ 1000; decide)) evda_nil))) (by show 3 ≤ 1000; decide)) (evda_cons (evd_lst (evda_cons evd_str (evda_cons (evd_of neg1 (.int _)) evda_nil)) (by show 2 ≤ 1000; decide)) evda_nil)) (by show 2 ≤ 1000; decide)) (evda_cons (evd_tup (evda_cons (evd_lst (evda_cons (evd_tup (evda_cons evd_str (evda_cons (evd_lst evda_nil (by show 0 ≤ 1000; decide)) evda_nil)) (by show 2 ≤ 1000; decide)) (evda_cons (evd_tup (evda_cons evd_str (evda_cons (evd_lst evda_nil (by show 0 ≤ 1000; decide)) evda_nil)) (by show 2 ≤ 1000; decide)) evda_nil)) (by show 2 ≤ 1000; decide)) (evda_cons (evd_lst (evda_cons evd_str (evda_cons (evd_of neg1 (.int _)) evda_nil)) (by show 2 ≤ 1000; decide)) evda_nil)) (by show 2 ≤ 1000; decide)) evda_nil))) (by show 3 ≤ 1000; decide)) fun v1 H1 e1 d1 => ?_
  show tSeq _ _ _ [some v1, none, none] H1
  refine q_asgDt (evd_cat (evd_var rfl d1) (evd_lst (evda_cons (evd_tup (evda_cons (evd_lst (evda_cons (evd_tup (evda_cons evd_str (evda_cons (evd_lst evda_nil (by show 0 ≤ 1000; decide)) evda_nil)) (by show 2 ≤ 1000; decide)) (evda_cons (evd_tup (evda_cons evd_str (evda_cons (evd_lst evda_nil (by show 0 ≤ 1000; decide)) evda_nil)) (by show 2 ≤ 1000; decide)) (evda_cons (evd_tup (evda_cons evd_str (evda_cons (evd_lst evda_nil (by show 0 ≤ 1000; decide)) evda_nil)) (by show 2 ≤ 1000; decide)) (evda_cons (evd_tup (evda_cons evd_str (evda_cons (evd_lst evda_nil (by show 0 ≤ 1000; decide)) evda_nil)) (by show 2 ≤ 1000; decide)) evda_nil)))) (by show 4 ≤ 1000; decide)) (evda_cons (evd_lst (evda_cons evd_str (evda_cons (evd_of neg1 (.int _)) evda_nil)) (by show 2 ≤ 1000; decide)) evda_nil)) (by show 2 ≤ 1000; decide)) (evda_cons (evd_tup (evda_cons (evd_lst (evda_cons (evd_tup (evda_cons evd_str (evda_cons (evd_lst evda_nil (by show 0 ≤ 1000; decide)) evda_nil)) (by show 2 ≤ 1000; decide)) (evda_cons (evd_tup (evda_cons evd_str (evda_cons (evd_lst (evda_cons evd_non evda_nil) (by show 1 ≤ 1000; decide)) evda_nil)) (by show 2 ≤ 1000; decide)) evda_nil)) (by show 2 ≤ 1000; decide)) (evda_cons (evd_lst (evda_cons evd_str (evda_cons (evd_of neg1 (.int _)) evda_nil)) (by show 2 ≤ 1000; decide)) evda_nil)) (by show 2 ≤ 1000; decide)) evda_nil)) (by show 2 ≤ 1000; decide)) (by show 3 + 2 ≤ 1000; decide)) fun v2 H2 e2 d2 => ?_
  show tSeq _ _ _ [some v2, none, none] H2
  refine q_asgDt (evd_cat (evd_var rfl d2) (evd_lst (evda_cons (evd_tup (evda_cons (evd_lst (evda_cons (evd_tup (evda_cons evd_str (evda_cons (evd_rep (n := 31) (evd_lst (evda_cons (evd_tup (evda_cons evd_str evda_nil) (by show 1 ≤ 1000; decide)) evda_nil) (by show 1 ≤ 1000; decide)) (by decide)) evda_nil)) (by show 2 ≤ 1000; decide)) evda_nil) (by show 1 ≤ 1000; decide)) (evda_cons (evd_lst (evda_cons evd_str (evda_cons (evd_of neg1 (.int _)) evda_nil)) (by show 2 ≤ 1000; decide)) evda_nil)) (by show 2 ≤ 1000; decide)) (evda_cons (evd_tup (evda_cons (evd_lst (evda_cons (evd_tup (evda_cons evd_str (evda_cons (evd_lst (evda_cons evd_non evda_nil) (by show 1 ≤ 1000; decide)) evda_nil)) (by show 2 ≤ 1000; decide)) (evda_cons (evd_tup (evda_cons evd_str (evda_cons (evd_lst (evda_cons evd_non evda_nil) (by show 1 ≤ 1000; decide)) evda_nil)) (by show 2 ≤ 1000; decide)) evda_nil)) (by show 2 ≤ 1000; decide)) (evda_cons (evd_lst (evda_cons evd_str (evda_cons evd_int evda_nil)) (by show 2 ≤ 1000; decide)) evda_nil)) (by show 2 ≤ 1000; decide)) evda_nil)) (by show 2 ≤ 1000; decide)) (by show 5 + 2 ≤ 1000; decide)) fun v3 H3 e3 d3 => ?_
  show tRet _ _ [some v3, none, none] H3
  have d3 : Dt H3 v3 (.list (fixR.map rowD)) := d3
  have e13 := (e1.trans e2).trans e3
  have lc := el_data2 (K := K) (wl := tVar 0) (te := tOp rEqDt (tCall (spOfP C n) [] E0 (tCons (tVar 1) tNil)) (tVar 2)) (σ := [some v3, none, none]) (H := H3) (i := 1) (j := 2) (ds := fixR.map rowD) (fun _ => V.bl true) (evd_var rfl d3) (by decide) (fun _ _ => rfl) (fun d hd => by
      obtain ⟨r, _, rfl⟩ := List.mem_map.mp hd
      exact ⟨_, _, rfl⟩) (fun x y d1' d2' H4 e4 hm dx dy => by
      obtain ⟨r, hr, er⟩ := List.mem_map.mp hm
      unfold rowD at er
      injection er with er
      injection er with er1 er2
      injection er2 with er2 _
      subst er1
      subst er2
      have fb := List.all_eq_true.mp fix_b r hr
      unfold fixB at fb
      rw [Bool.and_eq_true, Bool.and_eq_true, Bool.and_eq_true, decide_eq_true_eq, List.all_eq_true] at fb
      obtain ⟨b1, b2, b3, b4⟩ := fb
      obtain ⟨a, xs, rfl, ha, hxs⟩ := dt_lst dx
      obtain ⟨ts, rfl, ht⟩ := prs_of hxs
      have du := fix_due r hr
      have ok : PrsOk n (prD r.1) := ⟨fun e he => by
        obtain ⟨p, hp, rfl⟩ := List.mem_map.mp he
        have z := b1 p hp
        rw [Bool.and_eq_true] at z
        exact ⟨z.1, rfl, by show 0 < n; omega⟩, fun e he => by
        obtain ⟨p, hp, rfl⟩ := List.mem_map.mp he
        have z := b1 p hp
        rw [Bool.and_eq_true] at z
        exact z.2⟩
      refine fun H5 e5 Q' q' => ⟨.ref a, rfl, a, ts, r.1, rfl, e5 _ _ ha, ht.ex e5, ok, b2, by omega, fun hn => ?_, fun d i hd l H6 zl e6 dl => ?_⟩
      · rw [du] at hn
        cases hn
      · rw [du] at hd
        injection hd with hd
        injection hd with hd1 hd2
        subst hd1
        subst hd2
        refine ⟨y, rfl, _, _, dl, Dt.ex (e5.trans e6) dy, b3, b3, ?_⟩
        rw [b4]
        exact q' H6 e6)
  have al := ev_all (K := K) (bs := (fixR.map rowD).map fun _ => true) (by rw [List.map_map]; exact lc)
  refine s_ret (ev_is al (by rw [show ((fixR.map rowD).map fun _ => true).all id = true by decide])) fun H5 e5 => q H5 (e13.trans e5)
end
end Cr
/-! k14: a library unlike another -/
namespace Cr
open PySem PySem.Spec PyProof.Rows L2 Evl
theorem listK {X : Cx} {K : PySem.W.Frag} (h : X.K = K) : CallR X (.type "list") (fun xs H Q => ∃ p ys, xs = [V.ref p] ∧ (SqL K H p ys ∨ SqT K H p ys) ∧ ∀ l, H l = none → Q (.ref l) (upd H l (.lst ys))) := by
  subst h
  exact call_list_of
abbrev sUnl : Stmt := topS 49
abbrev nUnl : List Str := ["_law_pot_here", "_law_modules_here", "_law_found", "_law_way", "_law_name", "_law_other"]
theorem scUnl : FnScope nUnl ["_law_pot_here", "_law_modules_here"] (defScope sUnl) := ⟨rfl, rfl, rfl, by decide +kernel, rfl, by decide +kernel, by decide +kernel⟩
def setA7 : List PyData := [.str "set", .str "a", .int 7]
def addAB : List PyData := [.str "add", .str "a", .str "b"]
theorem st_setA7 : isStep (.tuple setA7) = true := by decide +kernel
theorem st_addAB : isStep (.tuple addAB) = true := by decide +kernel
theorem before_mono {ds : List PyData} {m n : Int} (h : isBefore (.tuple ds) m = true) (l : m ≤ n) : isBefore (.tuple ds) n = true := by
  unfold isBefore skipOk at h ⊢
  rw [Bool.and_eq_true] at h ⊢
  refine ⟨h.1, ?_⟩
  cases hs : skipLen (.tuple ds) with
  | none => rfl
  | some i =>
    have z := h.2
    rw [hs] at z
    exact decide_eq_true (by have := of_decide_eq_true z; omega)
theorem before_noskip {ds : List PyData} {n : Int} (h : isStep (.tuple ds) = true) (s : skipLen (.tuple ds) = none) : isBefore (.tuple ds) n = true := by
  unfold isBefore skipOk
  rw [h, s]
  rfl
theorem cut_v {p : Prog} (v : ProgV p) : ProgV (p.take 29 ++ [setA7]) := by
  have l := v.len
  have lt : (p.take 29).length ≤ 29 := by rw [List.length_take]; omega
  have lg : p.length ≤ (p.take 29).length + 1 := by rw [List.length_take]; omega
  refine ⟨by rw [List.length_append, List.length_singleton]; omega, fun ds h => ?_, fun j ds h => ?_, fun ds h i hi => ?_⟩
  · rcases List.mem_append.mp h with h | h
    · exact v.st ds (List.mem_of_mem_take h)
    · rw [List.mem_singleton.mp h]; exact st_setA7
  · rw [List.length_append, List.length_singleton]
    by_cases hj : j < (p.take 29).length
    · rw [List.getElem?_append_left hj] at h
      have hp : p[j]? = some ds := by
        rw [List.getElem?_take] at h
        split at h
        · exact h
        · cases h
      exact before_mono (v.bf j ds hp) (by omega)
    · rw [List.getElem?_append_right (by omega)] at h
      have : ds = setA7 := by
        have m := List.mem_of_getElem? h
        exact List.mem_singleton.mp m
      rw [this]
      exact before_noskip st_setA7 (by decide +kernel)
  · rcases List.mem_append.mp h with h | h
    · exact v.it ds (List.mem_of_mem_take h) i hi
    · rw [List.mem_singleton.mp h] at hi
      have e : i = 7 := by simpa [setA7] using hi
      rw [e]
      decide +kernel
theorem rep_v {n : Nat} (h : n ≤ 30) : ProgV (List.replicate n addAB) := by
  refine ⟨by rw [List.length_replicate]; exact h, fun ds hd => ?_, fun j ds hd => ?_, fun ds hd i hi => ?_⟩
  · rw [List.eq_of_mem_replicate hd]; exact st_addAB
  · rw [List.eq_of_mem_replicate (List.mem_of_getElem? hd)]
    exact before_noskip st_addAB (by decide +kernel)
  · rw [List.eq_of_mem_replicate hd] at hi
    simp [addAB] at hi
theorem nil_v : ProgV [] := ⟨Nat.zero_le _, fun _ h => (nomatch h), fun _ _ h => (by rw [List.getElem?_nil] at h; cases h), fun _ h => (nomatch h)⟩
theorem cut_mi {ns : List Str} {p : Prog} (h : ∀ ds ∈ p, okMod ns ds = true) : ∀ ds ∈ p.take 29 ++ [setA7], okMod ns ds = true := fun ds hd => by
  rcases List.mem_append.mp hd with hd | hd
  · exact h ds (List.mem_of_mem_take hd)
  · rw [List.mem_singleton.mp hd]
    unfold okMod
    rw [show modO (.tuple setA7) = none by decide +kernel]
theorem rep_mi {ns : List Str} (n : Nat) : ∀ ds ∈ List.replicate n addAB, okMod ns ds = true := fun ds hd => by
  rw [List.eq_of_mem_replicate hd]
  unfold okMod
  rw [show modO (.tuple addAB) = none by decide +kernel]
theorem prog_sha {p : Prog} (h : ∀ ds ∈ p, isStep (.tuple ds) = true) : SeqAt.shaped (progD p) = true := by
  obtain ⟨a, b⟩ := lay_prog h
  unfold SeqAt.shaped
  rw [a, decide_eq_true (by omega)]
  rfl
theorem eqv_progN (p : Prog) : PyData.eqv (progD p) (.list []) = p.isEmpty := by
  cases p with
  | nil => rfl
  | cons d r => rfl
def spUnl : Sp := fun vs H Q _ => ∃ (p d : Addr) (L : Lib), vs = [.ref p, .ref d] ∧ Pot H p ∧ Dt H (.ref d) (libD L) ∧ LibOk L ∧ ∀ (D : Addr) (L2 : Lib) (H' : Hp), H D = none → Drew p H H' → Dt H' (.ref D) (libD L2) → LibOk L2 → L2.map (·.1) = L.map (·.1) → Q (.ref D) H'
theorem evd_cutTo {K : PySem.W.Frag} {te ti : TE} {σ : L2.St} {H : Hp} {ds : List PyData} {k : Nat} (h : EvD te σ H (.list ds)) (hi : Ev ti σ H (.int (k : Int))) : EvD (tSl (rSlL K) te tNoPart (tPart ti)) σ H (.list (ds.take k)) := fun H1 e1 Q q =>
  h H1 e1 _ fun v H2 e2 hv => by
    obtain ⟨a, xs, rfl, ha, hxs⟩ := dt_lst hv
    refine hi H2 (e1.trans e2) _ fun H3 e3 => ⟨(k : Int), rfl, a, xs, rfl, sq_of (e3 _ _ ha), fun l zl => ?_⟩
    rw [cutV_to]
    have e4 : Ex H3 (upd H3 l (.lst (xs.take k))) := Ex.new zl
    exact q (.ref l) _ ((e2.trans e3).trans e4) (.lst upd_same (DtAll.take k (DtAll.ex (e3.trans e4) hxs)))
theorem evd_repE {te tb : TE} {σ : L2.St} {H : Hp} {d : PyData} {n : Nat} (h : EvD te σ H (.list [d])) (hb : Ev tb σ H (.int (n : Int))) (hn : n ≤ 100) : EvD (tOp rRep te tb) σ H (.list (List.replicate n d)) := fun H1 e1 Q q =>
  h H1 e1 _ fun v H2 e2 hv => hb H2 (e1.trans e2) _ fun H3 e3 => evd_rep (te := tC v) (σ := σ) (H := H3) (evd_of ev_c (Dt.ex e3 hv)) hn H3 (Ex.refl H3) _ fun u H4 e4 hu => q u H4 ((e2.trans e3).trans e4) hu
theorem q_par2 {ta tb : TE} {tz : TS} {D : Ends} {σ : L2.St} {H : Hp} {i j : Nat} (h : ta σ H fun v H1 => tb σ H1 fun w H2 => ∃ v' w', [v, w] = [v', w'] ∧ tz D ((σ.set i (some v')).set j (some w')) H2) : tSeq (tPar i j (tCons ta (tCons tb tNil))) tz D σ H := h
section
variable {P : Program} {w : World} {K : PySem.W.Frag} {mg : Str → Option Value} {base : Heap}
theorem ok_unl {f : Addr} {fd : FuncData} {k : Nat} (F : Fun K "_law_unlike" "_law_unlike" sUnl f fd) (B : Blt mg) (hD : Has P w K mg base k "_law_draw" ["_law_pot_here", "_law_bound"] spDraw) (hC : Has P w K mg base k "_law_choice" ["_law_pot_here", "_law_options"] spChoice) : FnG P w K mg base CX0 (k + 1) f fd ["_law_pot_here", "_law_modules_here"] spUnl := by
  obtain ⟨f2, d2, G2, b2, k2, g2⟩ := hD.ex
  obtain ⟨f4, d4, G4, b4, k4, g4⟩ := hC.ex
  refine okG F scUnl (fun vs H Q E h => by obtain ⟨_, _, _, rfl, _⟩ := h; rfl) (fun cdv A outer s H vs Q E hq hr h => ?_)
  obtain ⟨p, d, L, rfl, pot, hd, ok, q⟩ := h
  have hu := hu_of hr
  refine ⟨_, pss_cons (ps_par (i := 2) (j := 3) (by rfl) scUnl.nd rfl rfl (by decide) rfl rfl (pa_cons (pe_lock (pe_callTy (call_dictP (by rfl)) (by rfl) B.dict bDict (pa_cons
      (pe_lc (own := [("_law_name", 4)]) (g := gName 4) (tt := tYes) rfl scUnl.nd (pi_keys (pv 1)) (blkOk_by (own := [("_law_name", 4)]) (N := nUnl) (sc := defScope sUnl) (by decide +kernel))
        (fun _ _ _ _ _ => pg_name (i := 4) scUnl.nd rfl (Or.inl rfl)) (fun _ _ _ _ _ => pts_nil) (fun _ _ _ _ _ => pe_tup (pa_cons (pv 4) (pa_cons (pe_callTy (listK (K := K) rfl) (by rfl) B.list bList (pa_cons (pe_dget hu (pv 1) (pv 4) (fun _ _ => rfl)) pa_nil)) pa_nil)))) pa_nil)))
      (pa_cons (callG (E := E0) G2 hq hr (by rfl) g2 k2 b2 .nil pass0 (pa_cons (pv 0) (pa_cons pe_int pa_nil))) pa_nil)) rfl)
    (pss_cons (ps_par (i := 4) (j := 5) (by rfl) scUnl.nd rfl rfl (by decide) rfl rfl (pa_cons (callG (E := E0) G4 hq hr (by rfl) g4 k4 b4 .nil pass0 (pa_cons (pv 0) (pa_cons (pe_callB (call_sortedD rfl) (by rfl) B.sorted bSrt (pa_cons (pv 1) pa_nil)) pa_nil)))
      (pa_cons (callG (E := E0) G4 hq hr (by rfl) g4 k4 b4 .nil pass0 (pa_cons (pv 0) (pa_cons (pe_callB (call_sortedD rfl) (by rfl) B.sorted bSrt (pa_cons (pv 1) pa_nil)) pa_nil))) pa_nil)) rfl)
    (pss_cons (ps_if (pt_cmpR op_eq (pv 3) pe_int (nomark _)) (pss_one (ps_dput hu (pv 2) (pv 4) (pe_op op_cat (pe_slice sl_list (pe_dget hu (pv 2) (pv 4) (fun _ _ => rfl)) po_none (po_some pe_int)) (pe_lst (pa_cons (pe_tup (pa_cons pe_str (pa_cons pe_str (pa_cons pe_int pa_nil)))) pa_nil))) rfl))
      (pss_one (ps_if (pt_cmpR op_eq (pv 3) pe_int (nomark _)) (pss_one (ps_asg (pe_tup (pa_cons (pe_dget hu (pv 2) (pv 5) (fun _ _ => rfl)) (pa_cons (pe_dget hu (pv 2) (pv 4) (fun _ _ => rfl)) pa_nil))) (pg_tup rfl (pgs_cons (pg_sub (pv 2) (pv 4) (set_dict hu)) (pgs_cons (pg_sub (pv 2) (pv 5) (set_dict hu)) pgs_nil)))))
        (pss_one (ps_if (PW.pt (pw_and (pt_cmpR op_eq (pv 3) pe_int (nomark _)) (pw_and1 (pt_cmpR (op_neDt hr.units) (pe_dget hu (pv 2) (pv 4) (fun _ _ => rfl)) (pe_lst pa_nil) (nomark _))))) (pss_one (ps_dput hu (pv 2) (pv 4) (pe_op op_rep (pe_lst (pa_cons (pe_tup (pa_cons pe_str (pa_cons pe_str (pa_cons pe_str pa_nil)))) pa_nil)) (pe_callB call_len_seq (by rfl) B.len bLen (pa_cons (pe_dget hu (pv 2) (pv 4) (fun _ _ => rfl)) pa_nil))) rfl))
          (pss_one (ps_dput hu (pv 2) (pv 4) (pe_lst pa_nil) rfl)))))))
    (pss_one (ps_ret (pv 2))))), ?_⟩
  have nd := ok.v.nd
  have l40 := ok.v.l40
  have l1 := ok.v.l1
  have sv := libOk_st ok.v
  refine q_par2 ?_
  refine copy_lib (K := K) (i := 1) (j := 4) rfl hd nd l40 (fun _ => rfl) (by show 4 < 6; decide) rfl (fun _ => rfl) (fun _ => rfl) fun D H1 zD e1 hD _ => ?_
  have Dp : D ≠ p := (Drew.refl pot).neq zD
  have r1 := Drew.of pot e1
  refine ⟨.ref p, rfl, p, 4, rfl, by decide, by decide, r1.pot, fun c H2 c0 c1 r2 => ⟨.ref D, .int c, rfl, ?_⟩⟩
  have r02 := r1.trans r2
  have hd2 := lib_drew r2 r1.pot sv (Dt.ex e1 hd)
  have hD2 := lib_drew r2 r1.pot sv hD
  dsimp only
  show tSeq _ _ _ [some (.ref p), some (.ref d), some (.ref D), some (.int c), none, none] H2
  refine q_par2 ?_
  refine pick_name (L := L) (ev_var rfl) (ev_var rfl) hd2 r02.pot l1 l40 fun n H3 hn r3 => ?_
  have hd3 := lib_drew r3 r02.pot sv hd2
  have hD3 := lib_drew r3 r02.pot sv hD2
  have r03 := r02.trans r3
  refine pick_name (L := L) (ev_var rfl) (ev_var rfl) hd3 r03.pot l1 l40 fun m H4 hm r4 => ⟨.str n, .str m, rfl, ?_⟩
  have hD4 := lib_drew r4 r03.pot sv hD3
  have r04 := r03.trans r4
  show tIfS _ _ _ _ [some (.ref p), some (.ref d), some (.ref D), some (.int c), some (.str n), some (.str m)] H4
  clear hd2 hD2 hd3 hD3
  have fin : ∀ {H' : Hp} {o : HO} {L2 : Lib}, Ex H4 H' → Dt (upd H' D o) (.ref D) (libD L2) → LibOk L2 → L2.map (·.1) = L.map (·.1) → tRet (tVar 2) { nx := fun _ H' => Q .non H', rt := Q } [some (.ref p), some (.ref d), some (.ref D), some (.int c), some (.str n), some (.str m)] (upd H' D o) := fun {H' o L2} e h1 h2 h3 =>
    s_ret (ev_var rfl) fun H5 e5 => q D L2 H5 zD ((((r04.trans (Drew.of r04.pot e)).mut zD Dp)).trans (Drew.of ((r04.trans (Drew.of r04.pot e)).mut zD Dp).pot e5)) (Dt.ex e5 h1) h2 h3
  have pn := progL_at nd hn
  have vn := ok.v.ok _ pn
  have tc : ∀ (x : Int) {H5 : Hp}, EvT (tTest (tOp rEq (tVar 3) (tC (.int x)))) [some (.ref p), some (.ref d), some (.ref D), some (.int c), some (.str n), some (.str m)] H5 (decide (c = x)) := fun x H5 =>
    et_is (et_test (ev_op (ev_var rfl) ev_c (rv_eq rfl))) (decide_eq_decide.mpr ⟨fun z => V.int.inj z, fun z => by rw [z]⟩)
  have ep : ∀ {H5 : Hp}, Ex H4 H5 → EvD (tDGet (tVar 2) (tVar 4)) [some (.ref p), some (.ref d), some (.ref D), some (.int c), some (.str n), some (.str m)] H5 (progD (progL L n)) := fun e5 => evd_prog (ev_var rfl) (ev_var rfl) (Dt.ex e5 hD4) hn
  refine s_if (tc 0) (fun hb H5 e5 => ?_) (fun hb H5 e5 => ?_)
  · have ed : EvD (tOp rCat (tSl (rSlL K) (tDGet (tVar 2) (tVar 4)) tNoPart (tPart (tC (.int 29)))) (tLst (tCons (tTup (tCons (tC (.str "set")) (tCons (tC (.str "a")) (tCons (tC (.int 7)) tNil)))) tNil))) [some (.ref p), some (.ref d), some (.ref D), some (.int c), some (.str n), some (.str m)] H5 (progD ((progL L n).take 29 ++ [setA7])) := by
      have z := evd_cat (evd_cutTo (K := K) (k := 29) (ep e5) ev_c) (evd_lst (evda_cons (evd_tup (evda_cons (evd_str (x := "set")) (evda_cons (evd_str (x := "a")) (evda_cons (evd_int (i := 7)) evda_nil))) (by show 3 ≤ 1000; decide)) evda_nil) (by show 1 ≤ 1000; decide)) (by
        rw [List.length_take, List.length_map]
        show _ + 1 ≤ 1000
        omega)
      unfold progD
      rw [List.map_append, List.map_take]
      exact z
    refine s_putL ed (ev_var rfl) (ev_var rfl) (Dt.ex e5 hD4) sv (cut_v vn).st l40 hn fun o H6 e6 h6 => ?_
    exact fin (e5.trans e6) h6 (putL_ok ok hn (cut_v vn) (cut_mi fun ds hds => ok.mi _ pn ds hds)) (putL_names _ _ _)
  refine s_if (tc 1) (fun hb1 H6 e6 => ?_) (fun hb1 H6 e6 => ?_)
  · have e46 := e5.trans e6
    have pm := progL_at nd hm
    have vm := ok.v.ok _ pm
    refine evd_prog (ev_var rfl) (ev_var rfl) (Dt.ex e46 hD4) hm H6 (Ex.refl H6) _ fun v1 H7 e7 d1 => ep (e46.trans e7) H7 (Ex.refl H7) _ fun v2 H8 e8 d2 => ⟨by show 2 ≤ sizeLine; decide, fun T zT => ?_⟩
    have e9 : Ex H8 (upd H8 T (.tup [v1, v2])) := Ex.new zT
    refine ⟨T, [v1, v2], rfl, st_of upd_same, rfl, v1, [v2], rfl, .ref D, rfl, .str n, rfl, D, ?_⟩
    have hD9 := Dt.ex ((((e5.trans e6).trans e7).trans e8).trans e9) hD4
    have d1 := Dt.ex (e8.trans e9) d1
    have d2 := Dt.ex e9 d2
    have e49 := (((e5.trans e6).trans e7).trans e8).trans e9
    generalize upd H8 T (.tup [v1, v2]) = H9 at hD9 d1 d2 e49 ⊢
    obtain ⟨o1, p1, p2, p3⟩ := dput_lib hD9 sv vm.st l40 hn d1
    have ok1 : LibOk (putL L n (progL L m)) := putL_ok ok hn vm fun ds hds => ok.mi _ pm ds hds
    have d2 := Dt.keepLT p3 (ndt_prog vn.st) d2
    refine ⟨_, rfl, p1, v2, [], rfl, .ref D, rfl, .str m, rfl, D, ?_⟩
    obtain ⟨o2, q1, q2, q3⟩ := dput_lib (n := m) p2 (libOk_st ok1.v) vn.st ok1.v.l40 (by rw [putL_names]; exact hm) d2
    refine ⟨_, rfl, q1, rfl, ?_⟩
    have eu : upd (upd H9 D o1) D o2 = upd H9 D o2 := by
      funext b
      by_cases e : b = D
      · rw [e, upd_same, upd_same]
      · rw [upd_ne e, upd_ne e, upd_ne e]
    rw [eu] at q2 ⊢
    exact fin e49 q2 (putL_ok ok1 (by rw [putL_names]; exact hm) vn (by rw [putL_names]; exact fun ds hds => ok.mi _ pn ds hds)) (by rw [putL_names, putL_names])
  have e46 := e5.trans e6
  have test : EvT (tAnd (tTest (tOp rEq (tVar 3) (tC (.int 2)))) (tTest (tOp rNeDt (tDGet (tVar 2) (tVar 4)) (tLst tNil)))) [some (.ref p), some (.ref d), some (.ref D), some (.int c), some (.str n), some (.str m)] H6 (decide (c = 2) && !(progL L n).isEmpty) := by
    exact et_and (tc 2) fun _ => et_is (et_neD (ep e46) (evd_lst evda_nil (by show 0 ≤ 1000; decide)) (prog_sha vn.st) (by decide)) (by rw [eqv_progN])
  refine s_if test (fun hb2 H7 e7 => ?_) (fun hb2 H7 e7 => ?_)
  · have lk : Ev (tCB (fun xs H Q => ∃ p ys, xs = [V.ref p] ∧ (SqL K H p ys ∨ SqT K H p ys) ∧ Q (.int ys.length) H) (tCons (tDGet (tVar 2) (tVar 4)) tNil)) [some (.ref p), some (.ref d), some (.ref D), some (.int c), some (.str n), some (.str m)] H7 (.int ((progL L n).length : Int)) := fun H8 e8 Q q => ep (e46.trans e7) H8 e8 _ fun v H9 e9 hv => by
      obtain ⟨a, xs, rfl, ha, hxs⟩ := dt_lst hv
      have lx := hxs.length
      rw [List.length_map] at lx
      rw [← lx] at q
      exact ⟨a, xs, rfl, .inl (sq_of ha), q H9 e9⟩
    have ed : EvD (tOp rRep (tLst (tCons (tTup (tCons (tC (.str "add")) (tCons (tC (.str "a")) (tCons (tC (.str "b")) tNil)))) tNil)) (tCB (fun xs H Q => ∃ p ys, xs = [V.ref p] ∧ (SqL K H p ys ∨ SqT K H p ys) ∧ Q (.int ys.length) H) (tCons (tDGet (tVar 2) (tVar 4)) tNil))) [some (.ref p), some (.ref d), some (.ref D), some (.int c), some (.str n), some (.str m)] H7 (progD (List.replicate (progL L n).length addAB)) := by
      have z := evd_repE (evd_lst (evda_cons (evd_tup (evda_cons (evd_str (x := "add")) (evda_cons (evd_str (x := "a")) (evda_cons (evd_str (x := "b")) evda_nil))) (by show 3 ≤ 1000; decide)) evda_nil) (by show 1 ≤ 1000; decide)) lk (Nat.le_trans vn.len (by decide))
      unfold progD
      rw [List.map_replicate]
      exact z
    refine s_putL ed (ev_var rfl) (ev_var rfl) (Dt.ex (e46.trans e7) hD4) sv (rep_v vn.len).st l40 hn fun o H8 e8 h8 => ?_
    exact fin ((e46.trans e7).trans e8) h8 (putL_ok ok hn (rep_v vn.len) (rep_mi _)) (putL_names _ _ _)
  · have ed : EvD (tLst tNil) [some (.ref p), some (.ref d), some (.ref D), some (.int c), some (.str n), some (.str m)] H7 (progD []) := evd_lst evda_nil (by show 0 ≤ 1000; decide)
    refine s_putL ed (ev_var rfl) (ev_var rfl) (Dt.ex (e46.trans e7) hD4) sv nil_v.st l40 hn fun o H8 e8 h8 => ?_
    exact fin ((e46.trans e7).trans e8) h8 (putL_ok ok hn nil_v fun _ h => nomatch h) (putL_names _ _ _)
end
end Cr
/-! what is shown of names, numbers, steps: few signs, and plain ones -/
namespace Cr
open PySem PySem.Spec PyProof.Rows L2 Evl
theorem int_okT (i : Int) : okT (numT i) := fun c hc => by
  have dg : ∀ n, ∀ c ∈ TL.numL n, c < 128 := fun n c hc => by
    have := TL.numL_digits n c hc
    omega
  cases i with
  | ofNat n =>
    rw [show (numT (Int.ofNat n)).cps.toList = TL.numL n from num_pos n] at hc
    exact dg n c hc
  | negSucc n =>
    rw [num_neg] at hc
    rcases List.mem_cons.mp hc with rfl | h
    · decide
    · exact dg _ c h
theorem rep_low : ((List.range 128).all fun c => (Builtin.Str.reprChar 39 c).all (fun d => decide (d < 128)) && (Builtin.Str.reprChar 34 c).all fun d => decide (d < 128)) = true := by decide +kernel
theorem rep_fold {q : Nat} (hq : q = 39 ∨ q = 34) : ∀ (l : List Nat) (acc : Array Nat), (∀ c ∈ l, c < 128) → (∀ c ∈ acc.toList, c < 128) → ∀ c ∈ (l.foldl (fun out c => out ++ (Builtin.Str.reprChar q c).toArray) acc).toList, c < 128
  | [], acc, _, ha => ha
  | d :: l, acc, hl, ha => by
    rw [List.foldl_cons]
    refine rep_fold hq l _ (fun c hc => hl c (List.mem_cons_of_mem _ hc)) fun c hc => ?_
    rw [Array.toList_append] at hc
    rcases List.mem_append.mp hc with h | h
    · exact ha c h
    · have z := List.all_eq_true.mp rep_low d (List.mem_range.mpr (hl d List.mem_cons_self))
      rw [Bool.and_eq_true, List.all_eq_true, List.all_eq_true] at z
      rcases hq with rfl | rfl
      · exact of_decide_eq_true (z.1 c h)
      · exact of_decide_eq_true (z.2 c h)
theorem okT_rep {x : Str} (h : okT x) : okT (reprText x) := fun c hc => by
  have hq : reprQuote x = 39 ∨ reprQuote x = 34 := by
    unfold reprQuote
    split
    · exact .inr rfl
    · exact .inl rfl
  have qs : reprQuote x < 128 := by rcases hq with e | e <;> rw [e] <;> decide
  unfold reprText at hc
  rw [← Array.foldl_toList] at hc
  rw [Array.toList_push] at hc
  rcases List.mem_append.mp hc with h1 | h1
  · exact rep_fold hq x.cps.toList _ h (fun d hd => by rw [List.mem_singleton.mp hd]; exact qs) c h1
  · rw [List.mem_singleton.mp h1]; exact qs
theorem okT_lit {x : Str} (h : (x.cps.toList.all fun c => decide (c < 128)) = true) : okT x := fun c hc => of_decide_eq_true (List.all_eq_true.mp h c hc)
theorem okT_from : ∀ (ts : List Str) (k : Nat) (acc : Str), okT acc → (∀ t ∈ ts, okT t) → okT (textFrom k acc ts)
  | [], _, _, ha, _ => ha
  | t :: ts, k, acc, ha, h => by
    show okT (textFrom (k + 1) (acc ++ (if k > 0 then ", " else "" : String) ++ t) ts)
    refine okT_from ts (k + 1) _ (okT_app (okT_app ha ?_) (h t List.mem_cons_self)) fun u hu => h u (List.mem_cons_of_mem _ hu)
    split
    · exact okT_lit (by decide +kernel)
    · exact okT_lit (by decide +kernel)
theorem joinL_in {z : List Nat} {c : Nat} : ∀ {ps : List (List Nat)}, c ∈ TL.joinL z ps → c ∈ z ∨ ∃ p ∈ ps, c ∈ p
  | [], h => by
    rw [show TL.joinL z [] = [] from rfl] at h
    exact nomatch h
  | [p], h => .inr ⟨p, List.mem_cons_self, h⟩
  | p :: q :: ps, h => by
    have h : c ∈ p ++ (z ++ TL.joinL z (q :: ps)) := h
    rcases List.mem_append.mp h with h | h
    · exact .inr ⟨p, List.mem_cons_self, h⟩
    rcases List.mem_append.mp h with h | h
    · exact .inl h
    · rcases joinL_in h with h | ⟨r, hr, h⟩
      · exact .inl h
      · exact .inr ⟨r, List.mem_cons_of_mem _ hr, h⟩
theorem okT_joinS {a : Str} {ys : List Str} (ha : okT a) (h : ∀ y ∈ ys, okT y) : okT (Str.join a ys) := fun c hc => by
  have e : (Str.join a ys).cps.toList = TL.joinL (TL.tl a) (ys.map TL.tl) := TL.tl_join a ys
  rw [e] at hc
  rcases joinL_in hc with h1 | ⟨p, hp, h1⟩
  · exact ha c h1
  · obtain ⟨y, hy, rfl⟩ := List.mem_map.mp hp
    exact h y hy c h1
mutual
def asc : PyData → Bool
  | .none | .bool _ | .int _ => true
  | .str x => x.cps.toList.all fun c => decide (c < 128)
  | .list xs | .tuple xs => ascAll xs
  | .dict es => ascKv es
def ascAll : List PyData → Bool
  | [] => true
  | x :: xs => asc x && ascAll xs
def ascKv : List (PyData × PyData) → Bool
  | [] => true
  | (a, b) :: r => (asc a && asc b) && ascKv r
end
mutual
theorem shown_asc : ∀ d : PyData, asc d = true → okT d.shown
  | .none, _ => okT_lit (by decide +kernel)
  | .bool b, _ => by cases b <;> exact okT_lit (by decide +kernel)
  | .int i, _ => by
    rw [PyData.shown]
    exact int_okT i
  | .str x, h => by
    rw [PyData.shown]
    rw [asc] at h
    exact okT_rep fun c hc => of_decide_eq_true (List.all_eq_true.mp h c hc)
  | .list xs, h => by
    rw [PyData.shown]
    unfold listText
    exact okT_app (okT_from _ _ _ (okT_lit (by decide +kernel)) (shownAll_asc xs (by rw [asc] at h; exact h))) (okT_lit (by decide +kernel))
  | .tuple xs, h => by
    rw [PyData.shown]
    unfold tupleText
    refine okT_app (okT_app (okT_lit (by decide +kernel)) (okT_joinS (okT_lit (by decide +kernel)) (shownAll_asc xs (by rw [asc] at h; exact h)))) ?_
    split <;> exact okT_lit (by decide +kernel)
  | .dict es, h => by
    rw [PyData.shown]
    unfold dictText
    exact okT_app (okT_app (okT_lit (by decide +kernel)) (okT_joinS (okT_lit (by decide +kernel)) (shownKv_asc es (by rw [asc] at h; exact h)))) (okT_lit (by decide +kernel))
theorem shownAll_asc : ∀ xs : List PyData, ascAll xs = true → ∀ t ∈ PyData.shownAll xs, okT t
  | [], _, t, ht => by rw [PyData.shownAll] at ht; exact nomatch ht
  | x :: xs, h, t, ht => by
    rw [ascAll, Bool.and_eq_true] at h
    rw [PyData.shownAll] at ht
    rcases List.mem_cons.mp ht with rfl | ht
    · exact shown_asc x h.1
    · exact shownAll_asc xs h.2 t ht
theorem shownKv_asc : ∀ es : List (PyData × PyData), ascKv es = true → ∀ t ∈ PyData.shownKv es, okT t
  | [], _, t, ht => by rw [PyData.shownKv] at ht; exact nomatch ht
  | (a, b) :: r, h, t, ht => by
    rw [ascKv, Bool.and_eq_true, Bool.and_eq_true] at h
    rw [PyData.shownKv] at ht
    rcases List.mem_cons.mp ht with rfl | ht
    · exact okT_app (okT_app (shown_asc a h.1.1) (okT_lit (by decide +kernel))) (shown_asc b h.1.2)
    · exact shownKv_asc r h.2 t ht
end
theorem ascAll_of : ∀ {l : List PyData}, (∀ d ∈ l, asc d = true) → ascAll l = true
  | [], _ => rfl
  | x :: xs, h => by
    rw [ascAll, h x List.mem_cons_self, ascAll_of fun d hd => h d (List.mem_cons_of_mem _ hd)]
    rfl
theorem ascKv_of : ∀ {l : List (PyData × PyData)}, (∀ e ∈ l, asc e.1 = true ∧ asc e.2 = true) → ascKv l = true
  | [], _ => rfl
  | (a, b) :: xs, h => by
    obtain ⟨h1, h2⟩ := h (a, b) List.mem_cons_self
    rw [ascKv, h1, h2, ascKv_of fun d hd => h d (List.mem_cons_of_mem _ hd)]
    rfl
theorem asc_name {x : Str} (h : isNameS x = true) : asc (.str x) = true := by
  rw [asc, List.all_eq_true]
  exact fun c hc => decide_eq_true ((name_okT h).1 c hc)
theorem asc_prog {p : Prog} (h : ∀ ds ∈ p, isStep (.tuple ds) = true) : asc (progD p) = true := by
  unfold progD
  rw [asc]
  refine ascAll_of fun d hd => ?_
  obtain ⟨ds, hds, rfl⟩ := List.mem_map.mp hd
  rw [asc]
  refine ascAll_of fun e he => ?_
  have w := (step_wordy (h ds hds)).2 e he
  cases e with
  | int i => rfl
  | str x => exact asc_name (step_str (h ds hds) he)
  | _ => exact nomatch w
theorem asc_lib {L : Lib} (v : LibV L) : asc (libD L) = true := by
  unfold libD
  rw [asc]
  refine ascKv_of fun e he => ?_
  obtain ⟨r, hr, rfl⟩ := List.mem_map.mp he
  exact ⟨asc_name (v.nm r hr), asc_prog (v.ok r hr).st⟩
theorem nm_sz8 {x : Str} (h : isNameS x = true) : Sz 8 0 (.str x) := sz_str (low_free h).1 fun c hc => by have := (name_okT h).1 c hc; omega
theorem step_sz8 {ds : List PyData} (h : isStep (.tuple ds) = true) (hi : ∀ i, PyData.int i ∈ ds → i.natAbs ≤ 10 ^ 30) : Sz 36 1 (.tuple ds) := by
  obtain ⟨l4, wy⟩ := step_wordy h
  refine (sz_tuple (sza_all (b := 8) (m := 0) fun d hd => ?_)).mono (Nat.mul_le_mul_left 9 l4) (Nat.le_refl _)
  have w := wy d hd
  cases d with
  | int i => exact sz_int (Nat.le_trans (hi i hd) (by decide))
  | str x => exact nm_sz8 (step_str h hd)
  | _ => exact nomatch w
theorem prog_sz8 {p : Prog} (v : ProgV p) {n : Nat} (l : p.length ≤ n) : Sz (37 * n) 2 (progD p) := by
  refine (sz_list (sza_all (b := 36) (m := 1) fun d hd => ?_)).mono ?_ (Nat.le_refl _)
  · obtain ⟨ds, hds, rfl⟩ := List.mem_map.mp hd
    exact step_sz8 (v.st ds hds) (v.it ds hds)
  · rw [List.length_map]
    exact Nat.mul_le_mul_left _ l
theorem szk_all {a b m : Nat} : ∀ {es : List (PyData × PyData)}, (∀ e ∈ es, Sz a m e.1 ∧ Sz b m e.2) → SzK ((a + b + 2) * es.length) m es
  | [], _ => ⟨rfl, rfl, Nat.zero_le _, Nat.zero_le _⟩
  | (k, d) :: r, h => by
    have z := szk_cons (h (k, d) List.mem_cons_self).1 (h (k, d) List.mem_cons_self).2 (szk_all fun x hx => h x (List.mem_cons_of_mem _ hx))
    refine ⟨z.sh, z.lf, Nat.le_trans z.bk (Nat.le_of_eq ?_), z.dp⟩
    rw [List.length_cons, Nat.mul_succ, Nat.add_comm]
theorem lib_sz8 {L : Lib} (v : LibV L) (l10 : ∀ r ∈ L, r.2.length ≤ 10) : Sz 15200 3 (libD L) := by
  refine (sz_dict (szk_all (a := 8) (b := 370) (m := 2) fun e he => ?_)).mono ?_ (Nat.le_refl _)
  · obtain ⟨r, hr, rfl⟩ := List.mem_map.mp he
    exact ⟨(nm_sz8 (v.nm r hr)).mono (Nat.le_refl _) (by decide), prog_sz8 (v.ok r hr) (l10 r hr)⟩
  · rw [List.length_map]
    exact Nat.mul_le_mul_left 380 v.l40
theorem shown_le8 {b m : Nat} {d : PyData} (h : Sz b m d) : d.shown.length ≤ 82 * b + 80 := by
  have z := PyData.shown_le_bulk 80 (by decide) d h.lf
  have y := h.bk
  omega
theorem shown_list4 (a b c d : PyData) : (PyData.list [a, b, c, d]).shown.length ≤ a.shown.length + b.shown.length + c.shown.length + d.shown.length + 20 := by
  have h2 := listText_len_le (PyData.shownAll [a, b, c, d])
  have e : ((PyData.shownAll [a, b, c, d]).map (·.length)).sum = a.shown.length + b.shown.length + c.shown.length + d.shown.length := by
    simp only [PyData.shownAll, List.map_cons, List.map_nil, List.sum_cons, List.sum_nil]
    omega
  rw [PyData.shown]
  rw [e] at h2
  simp only [PyData.shownAll, List.length_cons, List.length_nil] at h2 ⊢
  omega
end Cr
/-! [e for name in d], d a dict of programs that is locked meanwhile -/
namespace Cr
open PySem PySem.Spec PyProof.Rows L2 Evl
theorem dtAll_keepLT {H H' : Hp} (e : KeepLT H H') : ∀ {vs : List V} {ds : List PyData}, (∀ d ∈ ds, ndt d = true) → DtAll H vs ds → DtAll H' vs ds
  | _, _, _, .nil => .nil
  | _, _, w, .cons h t => .cons (Dt.keepLT e (w _ List.mem_cons_self) h) (dtAll_keepLT e (fun d hd => w d (List.mem_cons_of_mem _ hd)) t)
theorem lc_keysD {K : PySem.W.Frag} {te : TE} {σ : L2.St} {H : Hp} {i j : Nat} {d : Addr} {kvs : List (Key × V)} {L : Lib} {Q : VK} (S : Hp → V → Prop) (pf : Str → PyData) (hi : σ[i]? = some (some (.ref d))) (hk : H d = some (.dK kvs)) (hL : LKv H kvs L) (l40 : L.length ≤ 40)
    (hnd : ∀ n ∈ L.map (·.1), ndt (pf n) = true) (hS : ∀ H1 H2 v, KeepLT H1 H2 → S H1 v → S H2 v) (hj : ∀ x, wipe ((wipe σ [j]).set j (some x)) [j] = wipe σ [j])
    (ht : ∀ od, ∀ n ∈ L.map (·.1), ∀ D H2, H D = none → D ≠ d → Ex (upd H d (.frz od (.dK kvs))) (wo D H2) → (∃ acc, H2 D = some (.lst acc)) → ∀ Q : VK, (∀ v H3, Ex H2 H3 → v ≠ .ref D → Dt (wo D H3) v (pf n) → S (wo D H3) v → Q v H3) → te ((wipe σ [j]).set j (some (.str n))) H2 Q)
    (q : ∀ B vs H2, H B = none → Ex H H2 → H2 B = some (.lst vs) → DtAll H2 vs ((L.map (·.1)).map pf) → (∀ v ∈ vs, S H2 v ∧ v ≠ .ref B) → Q (.ref B) H2) :
    tLockE (tLc (iKeys (tVar i)) (gName j) tYes te [j]) σ H Q := by
  refine ⟨d, .dK kvs, hk, trivial, fun od => ?_⟩
  have lk := lkv_len hL
  have wk := walk_keys (d := d) (o := od) (kvs := kvs)
  rw [lk, ← List.length_map (f := fun r : Str × Prog => r.1)] at wk
  have hf : (upd H d (.frz od (.dK kvs))) d = some (.frz od (.dK kvs)) := upd_same
  have lo : ∀ {b o}, b ≠ d → (upd H d (.frz od (.dK kvs))) b = some o → H b = some o := fun nb h => by rw [upd_ne nb] at h; exact h
  have ol : ∀ {b o}, b ≠ d → H b = some o → (upd H d (.frz od (.dK kvs))) b = some o := fun nb h => by rw [upd_ne nb]; exact h
  have nl : ∀ {b}, (upd H d (.frz od (.dK kvs))) b = none → b ≠ d ∧ H b = none := fun {b} hb => by
    have nb : b ≠ d := fun e => by rw [e, hf] at hb; cases hb
    exact ⟨nb, by rw [upd_ne nb] at hb; exact hb⟩
  have ln : (L.map (·.1)).length = L.length := List.length_map ..
  have ht' := ht od
  generalize hH1 : upd H d (.frz od (.dK kvs)) = H1 at ht' hf lo ol nl
  refine ⟨.ref d, hi, d, od, rfl, .inl ⟨kvs, hf, fun D hD => ?_⟩⟩
  obtain ⟨Dd, hD0⟩ := nl hD
  refine lc_it wk (fun m H2 => ∃ vs, H2 D = some (.lst vs) ∧ vs.length ≤ m ∧ DtAll (wo D H2) vs (((L.map (·.1)).take m).map pf) ∧ (∀ v ∈ vs, S (wo D H2) v ∧ v ≠ .ref D) ∧ Ex H1 (wo D H2))
    ⟨[], upd_same, Nat.le_refl _, .nil, fun v h => (nomatch h), fun c o hb => by rw [wo_ne (ne_of_none hb hD), upd_ne (ne_of_none hb hD)]; exact hb⟩ (fun m H2 _ z => ?_) (fun m x H2 H3 hlt z y => ?_) (fun H2 z => ?_)
  · obtain ⟨_, _, _, _, _, ex2⟩ := z
    exact (ex2.trans (wo_ex D H2)) _ _ hf
  · obtain ⟨vs, hvs, hl, hdt, hSv, ex2⟩ := z
    obtain ⟨rfl, k, v, hkv, rfl⟩ := y
    have hm : m < L.length := by omega
    obtain ⟨u, h1, _⟩ := lkv_get hL (List.getElem?_eq_getElem hm)
    rw [hkv] at h1
    cases h1
    refine ⟨hj _, ?_⟩
    refine (show EvT tYes _ H3 true from fun H1 _ Q q => q H1 (Ex.refl H1)) H3 (Ex.refl H3) _ fun H5 e5 => ?_
    rw [if_pos rfl]
    have ex5 : Ex H1 (wo D H5) := ex2.trans (Ex.wo e5)
    refine ht' _ (List.mem_map_of_mem (List.getElem_mem hm)) D H5 hD0 Dd ex5 ⟨vs, e5 _ _ hvs⟩ _ fun v6 H6 e6 nv dv sv => ?_
    have e36 := e5.trans e6
    refine ⟨vs, e36 _ _ hvs, by rw [sizeLine_eq]; omega, vs ++ [v6], upd_same, by rw [List.length_append, List.length_singleton]; omega, ?_, ?_, ?_⟩
    all_goals
      have ew : wo D (upd H6 D (.lst (vs ++ [v6]))) = wo D H6 := by
        funext b
        by_cases e : b = D
        · rw [e]; unfold wo; rw [if_pos rfl, if_pos rfl]
        · rw [wo_ne e, wo_ne e, upd_ne e]
      rw [ew]
    · rw [List.take_add_one, List.getElem?_map, List.getElem?_eq_getElem hm, List.map_append]
      exact DtAll.append (DtAll.ex (Ex.wo e36) hdt) (.cons dv .nil)
    · intro v hv
      rcases List.mem_append.mp hv with h | h
      · exact ⟨hS _ _ _ (Ex.keepLT (Ex.wo e36)) (hSv v h).1, (hSv v h).2⟩
      · rw [List.mem_singleton.mp h]
        exact ⟨sv, nv⟩
    · exact ex5.trans (Ex.wo e6)
  · obtain ⟨vs, hvs, hl, hdt, hSv, ex2⟩ := z
    have hd2 := (ex2.trans (wo_ex D H2)) _ _ hf
    have kp : KeepLT (wo D H2) (upd H2 d (.dK kvs)) := by
      refine ⟨fun c xs h => ?_, fun c xs h => ?_⟩
      · have h2 := wo_ex D H2 _ _ h
        rw [upd_ne (fun e => by rw [e, hd2] at h2; cases h2)]
        exact h2
      · have h2 := wo_ex D H2 _ _ h
        rw [upd_ne (fun e => by rw [e, hd2] at h2; cases h2)]
        exact h2
    rw [List.take_length] at hdt
    refine ⟨hd2, q D vs _ hD0 (fun b o hb => ?_) (by rw [upd_ne Dd]; exact hvs) (dtAll_keepLT kp (fun z hz => by obtain ⟨n, hn, rfl⟩ := List.mem_map.mp hz; exact hnd n hn) hdt) fun v hv => ⟨hS _ _ _ kp (hSv v hv).1, (hSv v hv).2⟩⟩
    by_cases e : b = d
    · rw [e] at hb ⊢
      rw [hk] at hb
      rw [upd_same]
      exact hb
    · rw [upd_ne e]
      exact (ex2.trans (wo_ex D H2)) _ _ (ol e hb)
end Cr
/-! k14: all that a library tells, told by the law -/
namespace Cr
open PySem PySem.Spec PyProof.Rows L2 Evl
abbrev sTR : Stmt := topS 48
abbrev nTR : List Str := ["_law_made", "_law_modules_here", "_law_told", "_law_due", "_law_program_here", "_law_thing", "_law_is_there", "_law_name"]
theorem scTR : FnScope nTR ["_law_made", "_law_modules_here"] (defScope sTR) := ⟨rfl, rfl, rfl, by decide +kernel, rfl, by decide +kernel, by decide +kernel⟩
structure HasLenL (P : Program) (w : World) (K : PySem.W.Frag) (mg : Str → Option Value) (base : Heap) (k : Nat) (C : Addr) : Prop where
  ex : ∃ f fd, FnOk P w K mg base CX0 k f fd ["self"] (spLLen C) ∧ Binds K fd ["self"] [] ∧ PySem.W.findIn K (.ref C) "__len__" = some (some (.ref f)) ∧ PySem.W.typeIn K (.ref f) = some (.type "function")
structure HasReprL (P : Program) (w : World) (K : PySem.W.Frag) (mg : Str → Option Value) (base : Heap) (k : Nat) (C : Addr) : Prop where
  ex : ∃ f fd, FnG P w K mg base CX0 k f fd ["self"] (spLRepr C) ∧ Binds K fd ["self"] [] ∧ PySem.W.findIn K (.ref C) "__repr__" = some (some (.ref f)) ∧ PySem.W.isFn K (.ref f) = true
theorem tlst_go {te : TE} {tA : TA} {σ : L2.St} {H : Hp} {Q : VK} (h : te σ H fun v H1 => tA σ H1 fun vs H2 => (v :: vs).length ≤ sizeLine ∧ ∀ p, H2 p = none → Q (.ref p) (upd H2 p (.lst (v :: vs)))) : tLst (tCons te tA) σ H Q := h
def inLib (L : Lib) : PyData → Bool
  | .str n => decide (n ∈ L.map (·.1))
  | _ => false
theorem srt_mem {L : Lib} {n : Str} : n ∈ (srtL L).map (·.1) ↔ n ∈ L.map (·.1) := by
  rw [srt_names]
  exact (srtS_perm _).mem_iff
theorem hasL_in {L : Lib} (v : LibV L) (d : PyData) : hasL (srtL L) d = inLib L d := by
  cases d with
  | str n =>
    show (isNameS n && (rowL (srtL L) n).isSome) = decide (n ∈ L.map (·.1))
    by_cases h : n ∈ L.map (·.1)
    · obtain ⟨r, hr, rfl⟩ := List.mem_map.mp h
      rw [decide_eq_true h, v.nm r hr, rowL_in (srt_v v).nd ((mem_srt v.nd r).mpr hr)]
      rfl
    · rw [decide_eq_false h]
      cases hr : rowL (srtL L) n with
      | none => rw [Option.isSome_none, Bool.and_false]
      | some r =>
        obtain ⟨m, e⟩ := rowL_mem hr
        exact absurd (srt_mem.mp (by rw [← e]; exact List.mem_map_of_mem m)) h
  | _ => rfl
theorem progL_srt {L : Lib} (v : LibV L) {n : Str} (h : n ∈ L.map (·.1)) : progL (srtL L) n = progL L n := by
  obtain ⟨r, hr, rfl⟩ := List.mem_map.mp h
  rw [progL_in v.nd hr, progL_in (srt_v v).nd ((mem_srt v.nd r).mpr hr)]
/-- what is tried on a library -/
structure GoodT (n : Nat) (d : PyData) : Prop where
  s : sm d = true
  c : cpyTo n d
  z : Sz 400 1 d
  a : asc d = true
def thingsD (L : Lib) : List PyData := (L.map (·.1)).map PyData.str ++ [.none, .int 0, .bool true, .str "", .str "A", .str "zzzzzzzz", .str "q", .str "ab", .tuple [], .list [], .dict [], .list ((srtS (L.map (·.1))).map PyData.str)]
theorem good_name {n : Nat} {x : Str} (hn : 2 ≤ n) (h : isNameS x = true) : GoodT n (.str x) := ⟨nm_sm h, ⟨rfl, by show 0 < n; omega⟩, (nm_sz8 h).mono (by decide) (by decide), asc_name h⟩
theorem good_names {n : Nat} {xs : List Str} (hn : 2 ≤ n) (l : xs.length ≤ 40) (h : ∀ x ∈ xs, isNameS x = true) : GoodT n (.list (xs.map PyData.str)) := by
  have hd : ∀ d ∈ xs.map PyData.str, ∃ x, d = .str x ∧ isNameS x = true := fun d hd => by
    obtain ⟨x, hx, rfl⟩ := List.mem_map.mp hd
    exact ⟨x, rfl, h x hx⟩
  refine ⟨?_, ⟨?_, ?_⟩, ?_, ?_⟩
  · rw [sm, smAll_of fun d hd' => by obtain ⟨x, rfl, hx⟩ := hd d hd'; exact nm_sm hx, List.length_map, decide_eq_true (by omega)]
    rfl
  · rw [cpy, List.length_map, decide_eq_true (by omega)]
    have : ∀ l : List Str, cpyAll (l.map PyData.str) = true := by
      intro l
      induction l with
      | nil => rfl
      | cons y l ih => rw [List.map_cons, cpyAll, ih]; rfl
    rw [this]
    rfl
  · have : ∀ l : List Str, dptAll (l.map PyData.str) = 0 := by
      intro l
      induction l with
      | nil => rfl
      | cons y l ih => rw [List.map_cons, dptAll, ih]; rfl
    rw [dpt, this]
    omega
  · refine (sz_list (sza_all (b := 8) (m := 0) fun d hd' => by obtain ⟨x, rfl, hx⟩ := hd d hd'; exact nm_sz8 hx)).mono ?_ (Nat.le_refl _)
    rw [List.length_map]
    exact Nat.le_trans (Nat.mul_le_mul_left 9 l) (by decide)
  · rw [asc]
    exact ascAll_of fun d hd' => by obtain ⟨x, rfl, hx⟩ := hd d hd'; exact asc_name hx
theorem good_lit {n : Nat} {x : Str} (hn : 2 ≤ n) (h : x.length ≤ 8) (a : asc (.str x) = true) : GoodT n (.str x) := by
  refine ⟨decide_eq_true (by omega), ⟨rfl, by show 0 < n; omega⟩, sz_str (by omega) fun c hc => ?_, a⟩
  rw [asc] at a
  have := of_decide_eq_true (List.all_eq_true.mp a c hc)
  omega
theorem good_all {n : Nat} {L : Lib} (hn : 2 ≤ n) (v : LibV L) : ∀ d ∈ thingsD L, GoodT n d := fun d hd => by
  unfold thingsD at hd
  rcases List.mem_append.mp hd with h | h
  · obtain ⟨x, hx, rfl⟩ := List.mem_map.mp h
    obtain ⟨r, hr, rfl⟩ := List.mem_map.mp hx
    exact good_name hn (v.nm r hr)
  · simp only [List.mem_cons, List.not_mem_nil, or_false] at h
    rcases h with rfl | rfl | rfl | rfl | rfl | rfl | rfl | rfl | rfl | rfl | rfl | rfl
    · exact ⟨rfl, ⟨rfl, by show 0 < n; omega⟩, sz_none, rfl⟩
    · exact ⟨rfl, ⟨rfl, by show 0 < n; omega⟩, sz_int (by decide), rfl⟩
    · exact ⟨rfl, ⟨rfl, by show 0 < n; omega⟩, sz_bool, rfl⟩
    · exact good_lit hn (by decide +kernel) (by decide +kernel)
    · exact good_lit hn (by decide +kernel) (by decide +kernel)
    · exact good_lit hn (by decide +kernel) (by decide +kernel)
    · exact good_lit hn (by decide +kernel) (by decide +kernel)
    · exact good_lit hn (by decide +kernel) (by decide +kernel)
    · exact ⟨rfl, ⟨rfl, by show 1 < n; omega⟩, (sz_tuple sza_nil).mono (Nat.le_refl _) (Nat.le_refl _), rfl⟩
    · exact ⟨rfl, ⟨rfl, by show 1 < n; omega⟩, (sz_list sza_nil).mono (Nat.le_refl _) (Nat.le_refl _), rfl⟩
    · exact ⟨rfl, ⟨rfl, by show 1 < n; omega⟩, (sz_dict szk_nil).mono (Nat.le_refl _) (Nat.le_refl _), rfl⟩
    · refine good_names hn (by rw [(srtS_perm _).length_eq, List.length_map]; exact v.l40) fun x hx => ?_
      obtain ⟨r, hr, rfl⟩ := List.mem_map.mp ((srtS_perm _).mem_iff.mp hx)
      exact v.nm r hr
def progsD (L : Lib) : List PyData := (L.map (·.1)).map fun n => progD (progL L n)
def dueTR (L : Lib) : PyData := .list [.list ((srtS (L.map (·.1))).map PyData.str), .int (L.length : Int), .str (reprL (srtL L)), .list (progsD L)]
theorem progs_at {L : Lib} (v : LibV L) {d : PyData} (h : d ∈ progsD L) : ∃ p, d = progD p ∧ ProgV p ∧ ∃ r ∈ L, p = r.2 := by
  obtain ⟨n, hn, rfl⟩ := List.mem_map.mp h
  have m := progL_at v.nd hn
  exact ⟨_, rfl, v.ok _ m, _, m, rfl⟩
theorem reprL_len {L : Lib} (v : LibV L) (l10 : ∀ r ∈ L, r.2.length ≤ 10) : (reprL (srtL L)).length ≤ 1247000 ∧ okT (reprL (srtL L)) := by
  have v2 := srt_v v
  have z := shown_le8 (lib_sz8 v2 fun r hr => l10 r ((mem_srt v.nd r).mp hr))
  have l1 : (Str.empty ++ ("Library(" : Str)).length = 8 := by decide +kernel
  have l2 : ((")" : Str)).length = 1 := by decide +kernel
  unfold reprL
  refine ⟨by rw [Str.length_append, Str.length_append, l1, l2]; omega, okT_app (okT_app (okT_lit (by decide +kernel)) (shown_asc _ (asc_lib v2))) (okT_lit (by decide +kernel))⟩
theorem smallL_of {L : Lib} (v : LibV L) (l10 : ∀ r ∈ L, r.2.length ≤ 10) : smallL L := by
  have z := lib_sz8 (srt_v v) fun r hr => l10 r ((mem_srt v.nd r).mp hr)
  have y := shown_le8 z
  exact ⟨z.fits (by decide) (by decide), by omega⟩
theorem names_sz {L : Lib} (v : LibV L) : Sz 360 1 (.list ((srtS (L.map (·.1))).map PyData.str)) := by
  refine (sz_list (sza_all (b := 8) (m := 0) fun d hd' => ?_)).mono ?_ (Nat.le_refl _)
  · obtain ⟨x, hx, rfl⟩ := List.mem_map.mp hd'
    obtain ⟨r, hr, rfl⟩ := List.mem_map.mp ((srtS_perm _).mem_iff.mp hx)
    exact nm_sz8 (v.nm r hr)
  · rw [List.length_map, (srtS_perm _).length_eq, List.length_map]
    exact Nat.mul_le_mul_left 9 v.l40
theorem progs_sz {L : Lib} (v : LibV L) (l10 : ∀ r ∈ L, r.2.length ≤ 10) : Sz 14840 3 (.list (progsD L)) := by
  refine (sz_list (sza_all (b := 370) (m := 2) fun d hd' => ?_)).mono ?_ (Nat.le_refl _)
  · obtain ⟨p, rfl, vp, r, hr, rfl⟩ := progs_at v hd'
    exact prog_sz8 vp (l10 r hr)
  · unfold progsD
    rw [List.length_map, List.length_map]
    exact Nat.mul_le_mul_left 371 v.l40
theorem due_fits {L : Lib} (v : LibV L) (l10 : ∀ r ∈ L, r.2.length ≤ 10) : Fits (dueTR L) := by
  have z1 := names_sz v
  have z2 : Sz 0 0 (.int (L.length : Int)) := sz_int (by have := v.l40; omega)
  have z4 := progs_sz v l10
  obtain ⟨r1, r2⟩ := reprL_len v l10
  have s3 : (PyData.str (reprL (srtL L))).shown.length ≤ 12470002 := by
    rw [PyData.shown]
    have := StrLaws.reprText_len (reprL (srtL L)) fun c hc => Nat.lt_trans (r2 c hc) (by decide)
    omega
  refine ⟨?_, ?_, ?_⟩
  · unfold dueTR
    rw [PyData.showable, PyData.showableAll, PyData.showableAll, PyData.showableAll, PyData.showableAll, PyData.showableAll, z1.sh, z2.sh, z4.sh]
    rfl
  · unfold dueTR
    rw [PyData.depth, PyData.depthAll, PyData.depthAll, PyData.depthAll, PyData.depthAll, PyData.depthAll]
    have a := z1.dp
    have b := z2.dp
    have c := z4.dp
    have e : (PyData.str (reprL (srtL L))).depth = 0 := rfl
    omega
  · have h := shown_list4 (.list ((srtS (L.map (·.1))).map PyData.str)) (.int (L.length : Int)) (.str (reprL (srtL L))) (.list (progsD L))
    have a := shown_le8 z1
    have b := shown_le8 z2
    have c := shown_le8 z4
    rw [sizeLine_eq]
    unfold dueTR
    omega
def endTR (L : Lib) (n : Str) : PyData := .list [.list ((srtS (L.map (·.1))).map PyData.str), progD (progL L n)]
theorem end_fits {L : Lib} (v : LibV L) (l10 : ∀ r ∈ L, r.2.length ≤ 10) {n : Str} (hn : n ∈ L.map (·.1)) : Fits (endTR L n) := by
  have m := progL_at v.nd hn
  have z1 := names_sz v
  have z2 := prog_sz8 (v.ok _ m) (l10 _ m)
  have s : SzA (360 + 1 + (37 * 10 + 1 + 0)) 2 [.list ((srtS (L.map (·.1))).map PyData.str), progD (progL L n)] := sza_cons (z1.mono (Nat.le_refl _) (by decide)) (sza_cons z2 sza_nil)
  exact (sz_list s).fits (by decide) (by decide)
theorem mis_sha {d : PyData} (a : asc d = true) : SeqAt.shaped (misD d) = true := by
  unfold misD SeqAt.shaped
  rw [PyData.canLay0, PyData.canLayAll0, PyData.canLay0, okT_sok (shown_asc d a)]
  rfl
theorem mis_eqv (d : PyData) : PyData.eqv (misD d) (misD d) = true := by
  have e : (d.shown == d.shown) = true := beq_self_eq_true _
  simp [misD, PyData.eqv, PyData.eqvAll, e]
def spTR (C : Addr) : Sp := fun vs H Q _ => ∃ (x d : Addr) (L : Lib) (H0 : Hp), vs = [.ref x, .ref d] ∧ LbNw C H0 H x (srtL L) ∧ H0 d ≠ none ∧ Dt H (.ref d) (libD L) ∧ LibOk L ∧ (∀ r ∈ L, r.2.length ≤ 10) ∧ ∀ H', Ex H H' → Q (.bl true) H'
section
variable {P : Program} {w : World} {K : PySem.W.Frag} {mg : Str → Option Value} {base : Heap}
/-- a list made anew, not long -/
def FrL (Hc H : Hp) (v : V) : Prop := ∃ l xs, v = .ref l ∧ Hc l = none ∧ H l = some (.lst xs) ∧ xs.length ≤ 10
theorem ok_told {f C CU : Addr} {fd : FuncData} {k n : Nat} (F : Fun K "_law_told_right" "_law_told_right" sTR f fd) (B : Blt mg) (T : LbC K mg C) (hn2 : 2 ≤ n) (hS : Has P w K mg base k "_law_shown" ["_law_modules_here"] spShL) (hM : Has P w K mg base k "_law_missing" ["_law_made", "_law_thing"] (spMis C n)) (h1 : HasM P w K mg base CX0 k C "modules" ["self"] (spLMods C)) (h2 : HasM P w K mg base CX0 k C "has_module" ["self", "value"] (spLHas C)) (hI : HasIni P w K mg base k n C CU) (hL : HasLenL P w K mg base k C) (hR : HasReprL P w K mg base k C) :
    FnG P w K mg base CX0 (k + 2) f fd ["_law_made", "_law_modules_here"] (spTR C) := by
  obtain ⟨fS, dS, GS, bS, kS, gS⟩ := hS.ex
  obtain ⟨fM, dM, GM, bM, kM, gM⟩ := hM.ex
  obtain ⟨f1, d1, G1, b1, m1⟩ := h1.ex
  obtain ⟨f2, d2, G2, b2, m2⟩ := h2.ex
  obtain ⟨fI, dI, GI, bI, mI⟩ := hI.ex
  obtain ⟨f8, d8, G8, b8, i8, t8⟩ := hL.ex
  obtain ⟨fR, dR, GR, bR, iR, tR⟩ := hR.ex
  refine okG F scTR (fun vs H Q E h => by obtain ⟨_, _, _, _, rfl, _⟩ := h; rfl) (fun cdv A outer s H vs Q E hq hr h => ?_)
  obtain ⟨x, d, L, H0, rfl, nw, kd, hd, ok, l10, q⟩ := h
  have hr0 : Room k _ := hr.mono (Nat.le_succ _)
  have hu := hu_of hr
  refine ⟨_, pss_cons (ps_set (i := 2) scTR.nd rfl (.inl rfl) (pe_lst (pa_cons (pe_meth0 (E := E0) (pv 0) T.cl m1 G1 hr0 b1 .nil pass0) (pa_cons (pe_callB (call_lenO i8 t8 G8 b8 hr) (by rfl) B.len bLen (pa_cons (pv 0) pa_nil)) (pa_cons (pe_callB (call_reprO iR tR GR bR hq hr) (by rfl) B.repr bRepr (pa_cons (pv 0) pa_nil)) (pa_cons (pe_lock (pe_lc (own := [("_law_name", 7)]) (g := gName 7) (tt := tYes) (te := tMeth C "initializer" (spLIniG C CU n) [] E0 (tVar 0) (tCons (tVar 7) tNil)) rfl scTR.nd (pi_keys (pv 1)) (blkOk_by (own := [("_law_name", 7)]) (N := nTR) (sc := defScope sTR) (by decide +kernel))
      (fun _ _ _ _ _ => pg_name (i := 7) scTR.nd rfl (Or.inl rfl)) (fun _ _ _ _ _ => pts_nil) (fun _ _ _ _ _ => by exact pe_meth (E := E0) (pv 0) T.cl mI GI hr0 bI .nil passL (pa_cons (pv 7) pa_nil)))) pa_nil))))))
    (pss_cons (ps_set (i := 3) scTR.nd rfl (.inl rfl) (pe_lst (pa_cons (pe_callB (call_sortedD rfl) (by rfl) B.sorted bSrt (pa_cons (pv 1) pa_nil)) (pa_cons (pe_callB call_lenD (by rfl) B.len bLen (pa_cons (pv 1) pa_nil)) (pa_cons (callG (E := E0) GS hq hr0 (by rfl) gS kS bS .nil pass0 (pa_cons (pv 1) pa_nil)) (pa_cons (pe_lock (pe_lc (own := [("_law_name", 7)]) (g := gName 7) (tt := tYes) (te := tDGet (tVar 1) (tVar 7)) rfl scTR.nd (pi_keys (pv 1)) (blkOk_by (own := [("_law_name", 7)]) (N := nTR) (sc := defScope sTR) (by decide +kernel))
      (fun _ _ _ _ _ => pg_name (i := 7) scTR.nd rfl (Or.inl rfl)) (fun _ _ _ _ _ => pts_nil) (fun _ _ _ _ _ => by exact pe_dget hu (pv 1) (pv 7) (fun _ _ => rfl)))) pa_nil))))))
    (pss_cons (ps_if (pt_cmpR op_ne (pe_callB (call_reprG hq hr.units) (by rfl) B.repr bRepr (pa_cons (pv 2) pa_nil)) (pe_callB (call_reprG hq hr.units) (by rfl) B.repr bRepr (pa_cons (pv 3) pa_nil)) (nomark _)) (pss_one (ps_ret pe_bl)) pss_nil)
    (pss_cons (ps_expr (pe_bm PySem.F.plainAttrs_list PySem.F.slot_list_append PySem.F.type_list_append mt_append (pe_ix ix_list (pv 2) pe_int (fun _ _ => rfl)) (pa_cons pe_str pa_nil)))
    (pss_cons (ps_for PassesOwn.never rfl (pi_list (pe_ix ix_list (pv 2) pe_int (fun _ _ => rfl))) (pg_name (i := 4) scTR.nd rfl (.inl rfl))
      (pss_cons (ps_expr (pe_bm PySem.F.plainAttrs_list PySem.F.slot_list_append PySem.F.type_list_append mt_append (pv 4) (pa_cons (pe_tup (pa_cons pe_str pa_nil)) pa_nil)))
      (pss_one (ps_expr (pe_bm0 PySem.F.plainAttrs_list PySem.F.slot_list_reverse PySem.F.type_list_reverse mt_reverse (pv 4))))))
    (pss_cons (ps_for PassesOwn.never rfl (pi_list (pe_op op_cat (pe_callTy (call_listD rfl) (by rfl) B.list bList (pa_cons (pv 1) pa_nil)) (pe_lst (pa_cons pe_non (pa_cons pe_int (pa_cons pe_bl (pa_cons pe_str (pa_cons pe_str (pa_cons pe_str (pa_cons pe_str (pa_cons pe_str (pa_cons (pe_tup pa_nil) (pa_cons (pe_lst pa_nil) (pa_cons pe_dnewK (pa_cons (pe_callB (call_sortedD rfl) (by rfl) B.sorted bSrt (pa_cons (pv 1) pa_nil)) pa_nil))))))))))))))) (pg_name (i := 5) scTR.nd rfl (.inl rfl))
      (pss_cons (ps_set (i := 6) scTR.nd rfl (.inl rfl) (pe_and (pe_callB call_isi (by rfl) B.isi bIsi (pa_cons (pv 5) (pa_cons (pe_bltn (v := .ty "str") (by rfl) B.str bStr rfl) pa_nil))) (pe_one (pe_cmp (pc_din hu (pv 5) (pv 1))))))
      (pss_cons (ps_if (pt_cmpR op_ne (pe_callB (call_reprG hq hr.units) (by rfl) B.repr bRepr (pa_cons (pe_meth (E := E0) (pv 0) T.cl m2 G2 hr0 b2 .nil pass0 (pa_cons (pv 5) pa_nil)) pa_nil)) (pe_callB (call_reprG hq hr.units) (by rfl) B.repr bRepr (pa_cons (pv 6) pa_nil)) (nomark _)) (pss_one (ps_ret pe_bl)) pss_nil)
      (pss_one (ps_if (PW.pt (pw_and (pt_not (pt_val (pv 6))) (pw_and1 (pt_cmpR (op_neDt hr.units) (callG (E := E0) GM hq hr0 (by rfl) gM kM bM .nil pass0 (pa_cons (pv 0) (pa_cons (pv 5) pa_nil))) (pe_lst (pa_cons (pe_callB (call_reprG hq hr.units) (by rfl) B.repr bRepr (pa_cons (pv 5) pa_nil)) (pa_cons pe_bl (pa_cons pe_bl pa_nil)))) (nomark _))))) (pss_one (ps_ret pe_bl)) pss_nil)))))
    (pss_one (ps_ret (pe_cmpR op_eq (pe_callB (call_reprG hq hr.units) (by rfl) B.repr bRepr (pa_cons (pe_lst (pa_cons (pe_meth0 (E := E0) (pv 0) T.cl m1 G1 hr0 b1 .nil pass0) (pa_cons (pe_meth (E := E0) (pv 0) T.cl mI GI hr0 bI .nil passL (pa_cons (pe_ix ix_list (pe_callB (call_sortedD rfl) (by rfl) B.sorted bSrt (pa_cons (pv 1) pa_nil)) pe_int (fun _ _ => rfl)) pa_nil)) pa_nil))) pa_nil))
      (pe_callB (call_reprG hq hr.units) (by rfl) B.repr bRepr (pa_cons (pe_lst (pa_cons (pe_ix ix_list (pv 3) pe_int (fun _ _ => rfl)) (pa_cons (pe_dget hu (pv 1) (pe_ix ix_list (pe_ix ix_list (pv 3) pe_int (fun _ _ => rfl)) pe_int (fun _ _ => rfl)) (fun _ _ => rfl)) pa_nil))) pa_nil)) (nomark _))))))))), ?_⟩
  have v := ok.v
  have sv := libOk_st v
  have l40 := v.l40
  have l1 := v.l1
  have lb := nw.at_
  obtain ⟨dx, dd, kvb, o1, o2, o3, o4, o5⟩ := nw.ob
  obtain ⟨kvs, hk, hkv⟩ := dt_dct hd
  have hLk : LKv H kvs L := hkv
  have ddd : dd ≠ d := fun e => kd (by rw [← e]; exact o4)
  have xd : x ≠ d := fun e => by rw [e, hk] at o1; cases o1
  have sl := srt_len L
  have sm1 := smallL_of v l10
  have svS := libOk_st (srt_v v)
  have nmn : ∀ {m : Str}, m ∈ L.map (·.1) → isNameS m = true := fun {m} hm => by
    obtain ⟨r, hr, rfl⟩ := List.mem_map.mp hm
    exact v.nm r hr
  -- what the library tells
  refine q_asgAny ?_
  refine ⟨.ref x, rfl, x, dx, _, rfl, o1, rfl, x, srtL L, rfl, lb, fun A1 H1 zA e1 hA => ?_⟩
  refine ⟨.ref x, rfl, x, dx, _, rfl, e1 _ _ o1, x, srtL L, rfl, lb.ex e1, fun H2 e2 => ⟨(srtL L).length, rfl, by omega, ?_⟩⟩
  refine ⟨.ref x, rfl, x, dx, _, rfl, (e1.trans e2) _ _ o1, x, srtL L, rfl, (lb.ex e1).ex e2, sm1.1, sm1.2, fun H3 e3 => ⟨_, rfl, ?_⟩⟩
  have e13 := (e1.trans e2).trans e3
  have hA3 := (e2.trans e3) _ _ hA
  rw [srt_names] at hA3
  refine lc_keysD (K := K) (i := 1) (j := 7) (L := L) (FrL H3) (fun m => progD (progL L m)) rfl (e13 _ _ hk) (DtKv.ex e13 hLk) l40 (fun m hm => ndt_prog (v.ok _ (progL_at v.nd hm)).st) (fun Ha Hb u kp ⟨l, xs, a, b, c, e⟩ => ⟨l, xs, a, b, kp.1 _ _ c, e⟩) (fun _ => rfl) (fun od m hm D H4 zD Dd ex4 ⟨acc, hacc⟩ Q' k' => ?_) (fun Bl vs H4 zB e4 hB dB sB => ?_)
  · have up : ∀ {b o}, b ≠ d → H3 b = some o → H4 b = some o := fun nb hb => (ex4.trans (wo_ex D H4)) _ _ (by rw [upd_ne nb]; exact hb)
    have kp : KeepLT H3 H4 := ⟨fun c xs h => up (fun e => by rw [e, e13 _ _ hk] at h; cases h) h, fun c xs h => up (fun e => by rw [e, e13 _ _ hk] at h; cases h) h⟩
    have lb4 : LbAt C H4 x (srtL L) := ⟨dx, dd, kvb, up xd (e13 _ _ o1), up ddd (e13 _ _ o2), lkv_keep kp svS (DtKv.ex e13 o3)⟩
    have nm := nmn hm
    have vp := v.ok _ (progL_at v.nd hm)
    have pe := progL_srt v hm
    refine ⟨.ref x, rfl, x, dx, _, rfl, up xd (e13 _ _ o1), rfl, .str m, rfl, x, .str m, .str m, srtL L, rfl, lb4, .str m, nm_sm nm, ⟨rfl, by show 0 < n; omega⟩, fun m' em hmm l xs H5 zl e5 hl hxs => ?_, fun hf => ?_⟩
    · injection em with em
      subst em
      rw [pe] at hxs
      have lD : l ≠ D := fun e => by rw [e, hacc] at zl; cases zl
      have hD5 := e5 _ _ hacc
      have tp : Tps H5 (wo D H5) := fun a ys h => by
        rw [wo_ne (fun e => by rw [e, hD5] at h; cases h)]
        exact h
      have hl' : (wo D H5) l = some (.lst xs) := by rw [wo_ne lD]; exact hl
      have z3 : H3 l = none := by
        cases hh : H3 l with
        | none => rfl
        | some o =>
          exfalso
          by_cases e : l = d
          · have z := (ex4.trans (wo_ex D H4)) d _ upd_same
            rw [← e, zl] at z
            cases z
          · rw [up e hh] at zl
            cases zl
      refine k' (.ref l) H5 e5 (fun e => lD (V.ref.inj e)) (.lst hl' (dts_step tp hxs vp.st)) ⟨l, xs, rfl, z3, hl', ?_⟩
      have z := hxs.length
      rw [List.length_map] at z
      rw [z]
      exact l10 _ (progL_at v.nd hm)
    · rw [hasL_in v] at hf
      exact absurd hm (of_decide_eq_false hf)
  refine ⟨by show 4 ≤ sizeLine; decide, fun Tl zT => ?_⟩
  have e5 : Ex H4 (upd H4 Tl (.lst [.ref A1, .int ((srtL L).length : Int), .str (reprL (srtL L)), .ref Bl])) := Ex.new zT
  have hT5 : (upd H4 Tl (.lst [.ref A1, .int ((srtL L).length : Int), .str (reprL (srtL L)), .ref Bl])) Tl = some (.lst [.ref A1, .int ((srtL L).length : Int), .str (reprL (srtL L)), .ref Bl]) := upd_same
  generalize upd H4 Tl (.lst [.ref A1, .int ((srtL L).length : Int), .str (reprL (srtL L)), .ref Bl]) = H5 at e5 hT5 ⊢
  have e15 := (e13.trans e4).trans e5
  have hA5 := (e4.trans e5) _ _ hA3
  have hB5 := e5 _ _ hB
  have dB5 := DtAll.ex e5 dB
  have sB5 : ∀ u ∈ vs, FrL H3 H5 u ∧ u ≠ .ref Bl := fun u hu => by
    obtain ⟨⟨l, xs, a, b, c, e⟩, g⟩ := sB u hu
    exact ⟨⟨l, xs, a, b, e5 _ _ c, e⟩, g⟩
  have dT5 : Dt H5 (.ref Tl) (dueTR L) := by
    refine .lst hT5 (.cons (.lst hA5 (dts_strs _)) (.cons ?_ (.cons (.str _) (.cons (.lst hB5 dB5) .nil))))
    rw [sl]
    exact .int _
  have zT3 : H4 Tl = none := zT
  show tSeq _ _ _ [some (.ref x), some (.ref d), some (.ref Tl), none, none, none, none, none] H5
  -- what is due
  refine q_asgAny ?_
  have hd5 := Dt.ex e15 hd
  refine tlst_go ?_
  refine el_srtD (td := tVar 1) (σ := [some (.ref x), some (.ref d), some (.ref Tl), none, none, none, none, none]) (ev_var rfl) hd5 l40 H5 (Ex.refl H5) _ fun S1 H6 zS e6 hS => ?_
  refine ⟨.ref d, rfl, d, kvs, rfl, (e15.trans e6) _ _ hk, ?_⟩
  refine ⟨.ref d, rfl, d, L, rfl, Dt.ex e6 hd5, v, sm1, fun H7 e7 => ?_⟩
  have e17 := (e15.trans e6).trans e7
  refine lc_keysD (K := K) (i := 1) (j := 7) (L := L) (fun _ _ => True) (fun m => progD (progL L m)) rfl (e17 _ _ hk) (DtKv.ex e17 hLk) l40 (fun m hm => ndt_prog (v.ok _ (progL_at v.nd hm)).st) (fun _ _ _ _ _ => trivial) (fun _ => rfl) (fun od m hm D H8 zD Dd ex8 ⟨acc, hacc⟩ Q' k' => ?_) (fun B2 ws H8 zB2 e8 hB2 dB2 _ => ?_)
  · have up : ∀ {b o}, b ≠ d → H7 b = some o → (wo D H8) b = some o := fun nb hb => ex8 _ _ (by rw [upd_ne nb]; exact hb)
    have kp : KeepLT H7 (wo D H8) := ⟨fun c xs h => up (fun e => by rw [e, e17 _ _ hk] at h; cases h) h, fun c xs h => up (fun e => by rw [e, e17 _ _ hk] at h; cases h) h⟩
    obtain ⟨u, hu1, hu2⟩ := lkv_at (L := L) (DtKv.ex e17 hLk) hm
    refine ev_dgetR (ev_var rfl) (ev_var rfl) (.inr ⟨od, (ex8.trans (wo_ex D H8)) _ _ upd_same⟩) hu1 H8 (Ex.refl _) _ fun H9 e9 => k' u H9 e9 (fun e => ?_) (Dt.ex (Ex.wo e9) (Dt.keepLT kp (ndt_prog (v.ok _ (progL_at v.nd hm)).st) hu2)) trivial
    obtain ⟨a, xs, rfl, ha, _⟩ := dt_lst hu2
    cases e
    rw [zD] at ha
    cases ha
  refine ⟨by show 4 ≤ sizeLine; decide, fun R zR => ?_⟩
  have e9 : Ex H8 (upd H8 R (.lst [.ref S1, .int (kvs.length : Int), .str (reprL (srtL L)), .ref B2])) := Ex.new zR
  have hR9 : (upd H8 R (.lst [.ref S1, .int (kvs.length : Int), .str (reprL (srtL L)), .ref B2])) R = some (.lst [.ref S1, .int (kvs.length : Int), .str (reprL (srtL L)), .ref B2]) := upd_same
  generalize upd H8 R (.lst [.ref S1, .int (kvs.length : Int), .str (reprL (srtL L)), .ref B2]) = H9 at e9 hR9 ⊢
  have e69 := (e7.trans e8).trans e9
  have e59 := e6.trans e69
  have hS9 := e69 _ _ hS
  have dR9 : Dt H9 (.ref R) (dueTR L) := by
    refine .lst hR9 (.cons (.lst hS9 (dts_strs _)) (.cons ?_ (.cons (.str _) (.cons (.lst (e9 _ _ hB2) (DtAll.ex e9 dB2)) .nil))))
    rw [lkv_len hLk]
    exact .int _
  have dT9 := Dt.ex e59 dT5
  have ft := due_fits v l10
  show tSeq _ _ _ [some (.ref x), some (.ref d), some (.ref Tl), some (.ref R), none, none, none, none] H9
  refine q_when (b := false) (et_is (et_test (ev_op (ev_cb (ea_cons (ev_var rfl) ea_nil) (rc_repr dT9 ft)) (ev_cb (ea_cons (ev_var rfl) ea_nil) (rc_repr dR9 ft)) (rv_ne rfl))) (by rw [decide_eq_true rfl]; rfl)) (fun z => nomatch z) (fun _ H10 e10 => ?_)
  -- the told lists are changed
  have e5X := e59.trans e10
  refine q_app (K := K) (l := A1) (e5X _ _ hA5) (ev_op (ev_var rfl) ev_c (rv_ixL (sq_of (e5X _ _ hT5)) (atI_nat (j := 0) rfl))) ev_c (by rw [List.length_map, (srtS_perm _).length_eq, List.length_map]; omega) fun H11 e11 => ?_
  have e5Y := e5X.trans e11
  have nA : ∀ {c o}, H3 c = none → H11 c = some o → c ≠ A1 := fun h _ e => by rw [e, hA3] at h; cases h
  have vsl : vs.length = L.length := by
    have z := dB.length
    rw [z, List.length_map, List.length_map]
  have zB4 : ∀ u ∈ vs, ∀ l, u = .ref l → H3 l = none ∧ (∃ o, H4 l = some o) ∧ l ≠ Bl := fun u hu l e => by
    obtain ⟨⟨l', xs, a, b, c, _⟩, g⟩ := sB u hu
    rw [e] at a g
    cases a
    exact ⟨b, ⟨_, c⟩, fun z => g (by rw [z])⟩
  have frm : ∀ c o, c ≠ A1 → H11 c = some o → (upd H11 A1 (.lst ((srtS (L.map (·.1))).map V.str ++ [.str "x"]))) c = some o := fun c o n h => by rw [upd_ne n]; exact h
  have hA12 : (upd H11 A1 (.lst ((srtS (L.map (·.1))).map V.str ++ [.str "x"]))) A1 = some (.lst ((srtS (L.map (·.1))).map V.str ++ [.str "x"])) := upd_same
  generalize upd H11 A1 (.lst ((srtS (L.map (·.1))).map V.str ++ [.str "x"])) = H12 at frm hA12 ⊢
  have BlA : Bl ≠ A1 := fun e => by rw [e, hA3] at zB; cases zB
  have TlA : Tl ≠ A1 := fun e => by rw [e, e4 _ _ hA3] at zT; cases zT
  have S1A : S1 ≠ A1 := fun e => by rw [e, hA5] at zS; cases zS
  have RA : R ≠ A1 := fun e => by rw [e, ((e6.trans e7).trans e8) _ _ hA5] at zR; cases zR
  have hB12 := frm _ _ BlA (e5Y _ _ hB5)
  have hT12 := frm _ _ TlA (e5Y _ _ hT5)
  refine q_forLn (K := K) (a := Bl) (xs := vs) (ev_op (ev_var rfl) ev_c (rv_ixL (sq_of hT12) (atI_nat (j := 3) rfl))) (sq_of hB12) (fun i σ H' => (∃ y4, σ = [some (.ref x), some (.ref d), some (.ref Tl), some (.ref R), y4, none, none, none]) ∧ (∀ c o, c ≠ A1 → V.ref c ∉ vs → H12 c = some o → H' c = some o) ∧ ∀ u ∈ vs, ∃ l xs, u = .ref l ∧ H' l = some (.lst xs) ∧ xs.length ≤ 10 + i)
    (fun H' e' => ⟨⟨_, rfl⟩, fun c o _ _ h => e' _ _ h, fun u hu => ?_⟩) (fun i σ H' _ hP => ?_) (fun i u σ H' hi hP => ?_) (fun σ H13 hP => ?_)
  · obtain ⟨⟨l, xs, rfl, z3, h5, le⟩, _⟩ := sB5 u hu
    exact ⟨l, xs, rfl, e' _ _ (frm _ _ (fun e => by rw [e, hA3] at z3; cases z3) (e5Y _ _ h5)), by omega⟩
  · refine sq_of (hP.2.1 _ _ BlA (fun h => ?_) hB12)
    exact (zB4 _ h Bl rfl).2.2 rfl
  · obtain ⟨⟨y4, rfl⟩, hfr, hls⟩ := hP
    have hu := List.mem_of_getElem? hi
    have hil := (List.getElem?_eq_some_iff.mp hi).1
    obtain ⟨l, xs, rfl, hl, le⟩ := hls u hu
    show tSeq _ _ _ [some (.ref x), some (.ref d), some (.ref Tl), some (.ref R), some (.ref l), none, none, none] H'
    refine q_appU (K := K) hl (ev_var rfl) (eu_tup (ea_cons ev_c ea_nil) (by show 1 ≤ 100000; decide)) (by omega) fun p H1' zp e1' hp => ?_
    refine ⟨.ref l, rfl, Or.inl ⟨rfl, _, sq_of upd_same⟩, l, _, rfl, rfl, upd_same, ⟨_, rfl⟩, fun c o n1 n2 h => ?_, fun u' hu' => ?_⟩
    · have cl : c ≠ l := fun e => n2 (by rw [e]; exact hu)
      rw [upd_ne cl, upd_ne cl]
      exact e1' _ _ (hfr c o n1 n2 h)
    · obtain ⟨l2, xs2, rfl, hl2, le2⟩ := hls u' hu'
      by_cases e : l2 = l
      · subst e
        refine ⟨l2, _, rfl, upd_same, ?_⟩
        rw [List.length_reverse, List.length_append, List.length_singleton]
        omega
      · exact ⟨l2, xs2, rfl, by rw [upd_ne e, upd_ne e]; exact e1' _ _ hl2, by omega⟩
  obtain ⟨⟨y4, rfl⟩, hfr, _⟩ := hP
  have keep : ∀ {c o}, c ≠ A1 → V.ref c ∉ vs → H11 c = some o → H13 c = some o := fun n1 n2 h => hfr _ _ n1 n2 (frm _ _ n1 h)
  have e0 : Ex H H13 := fun c o h => keep (fun e => by rw [e, zA] at h; cases h) (fun hm => by
    have z := (zB4 _ hm c rfl).1
    rw [e13 _ _ h] at z
    cases z) ((e15.trans e5Y) _ _ h)
  have old : ∀ {c}, H5 c = none → V.ref c ∉ vs := fun z hm => by
    obtain ⟨o, ho⟩ := (zB4 _ hm _ rfl).2.1
    rw [e5 _ _ ho] at z
    cases z
  have hS13 : H13 S1 = some (.lst ((srtS (L.map (·.1))).map V.str)) := keep S1A (old zS) ((e10.trans e11) _ _ hS9)
  have hR13 : H13 R = some (.lst [.ref S1, .int (kvs.length : Int), .str (reprL (srtL L)), .ref B2]) := keep RA (old (fresh_back ((e6.trans e7).trans e8) zR)) ((e10.trans e11) _ _ hR9)
  have lb13 := lb.ex e0
  have o13 := e0 _ _ o1
  have hd13 := Dt.ex e0 hd
  have hk13 := e0 _ _ hk
  have hL13 : LKv H13 kvs L := DtKv.ex e0 hLk
  clear hfr keep old frm zB4 sB5 sB dB dB5
  have l0 : 0 < (srtS (L.map (·.1))).length := by rw [(srtS_perm _).length_eq, List.length_map]; omega
  obtain ⟨n0, hn0⟩ : ∃ n0, (srtS (L.map (·.1)))[0]? = some n0 := ⟨_, List.getElem?_eq_getElem l0⟩
  have n0m : n0 ∈ L.map (·.1) := (srtS_perm _).mem_iff.mp (List.mem_of_getElem? hn0)
  have nin : ∀ {H' : Hp}, Ex H13 H' → ∀ (m : Str), (valV kvs (.inr m)).isSome = decide (m ∈ L.map (·.1)) := fun {H'} e' m => by
    rcases lkv_val m (DtKv.ex e' hL13) with ⟨z1, z2⟩ | ⟨r', v', hr', hv', _⟩
    · rw [z2]
      refine (decide_eq_false fun hm => ?_).symm
      obtain ⟨r, hr, rfl⟩ := List.mem_map.mp hm
      rw [rowL_in v.nd hr] at z1
      cases z1
    · rw [hv']
      obtain ⟨m1, rfl⟩ := rowL_mem hr'
      exact (decide_eq_true (List.mem_map_of_mem m1)).symm
  have keys : kvs.map (fun kv => kV kv.1) = (L.map (·.1)).map V.str := by
    have z := congrArg (List.map kV) (lkv_keys hL13)
    rw [List.map_map, List.map_map] at z
    rw [List.map_map]
    exact z
  have srtE : ∀ {H' : Hp} {y4 y5 y6 : Option V}, Ex H13 H' → EvL (tCB rSrtD (tCons (tVar 1) tNil)) [some (.ref x), some (.ref d), some (.ref Tl), some (.ref R), y4, y5, y6, none] H' ((srtS (L.map (·.1))).map V.str) := fun e' => el_srtD (ev_var rfl) (Dt.ex e' hd13) l40
  have things : EvD (tOp rCat (tCB (fun xs H Q => ∃ (a : Addr) (kvs : List (Key × V)), xs = [.ref a] ∧ Rd H a (.dK kvs) ∧ ∀ p, H p = none → Q (.ref p) (upd H p (.lst (kvs.map fun kv => kV kv.1)))) (tCons (tVar 1) tNil)) (tLst (tCons (tC .non) (tCons (tC (.int 0)) (tCons (tC (.bl true)) (tCons (tC (.str "")) (tCons (tC (.str "A")) (tCons (tC (.str "zzzzzzzz")) (tCons (tC (.str "q")) (tCons (tC (.str "ab")) (tCons (tTup tNil) (tCons (tLst tNil) (tCons tDNewK (tCons (tCB rSrtD (tCons (tVar 1) tNil)) tNil))))))))))))))
      [some (.ref x), some (.ref d), some (.ref Tl), some (.ref R), y4, none, none, none] H13 (.list (thingsD L)) := by
    have lk : EvD (tCB (fun xs H Q => ∃ (a : Addr) (kvs : List (Key × V)), xs = [.ref a] ∧ Rd H a (.dK kvs) ∧ ∀ p, H p = none → Q (.ref p) (upd H p (.lst (kvs.map fun kv => kV kv.1)))) (tCons (tVar 1) tNil)) [some (.ref x), some (.ref d), some (.ref Tl), some (.ref R), y4, none, none, none] H13 (.list ((L.map (·.1)).map PyData.str)) := fun H' e' Q' q' => ⟨.ref d, rfl, d, kvs, rfl, .inl (e' _ _ hk13), fun p zp => by
      rw [keys]
      exact q' _ _ (Ex.new zp) (.lst upd_same (dts_strs _))⟩
    exact evd_cat lk (evd_lst (evda_cons evd_non (evda_cons (evd_int (i := 0)) (evda_cons (evd_bl (b := true)) (evda_cons (evd_str (x := "")) (evda_cons (evd_str (x := "A")) (evda_cons (evd_str (x := "zzzzzzzz")) (evda_cons (evd_str (x := "q")) (evda_cons (evd_str (x := "ab")) (evda_cons (evd_tup evda_nil (by show 0 ≤ 1000; decide)) (evda_cons (evd_lst evda_nil (by show 0 ≤ 1000; decide)) (evda_cons evd_dnew (evda_cons (evd_ofL (srtE (Ex.refl _)) fun _ => dts_strs _) evda_nil)))))))))))) (by show 12 ≤ 1000; decide)) (by rw [List.length_map, List.length_map]; show L.length + 12 ≤ 1000; omega)
  have good := good_all hn2 v
  show tFor _ _ _ _ [some (.ref x), some (.ref d), some (.ref Tl), some (.ref R), y4, none, none, none] H13
  refine s_forD (K := K) things (fun σ' => ∃ y4 y5 y6, σ' = [some (.ref x), some (.ref d), some (.ref Tl), some (.ref R), y4, y5, y6, none]) ⟨_, _, _, rfl⟩ (fun Ha ea u du σ' H' hm e' hu' hP => ?_) (fun σ' H' hP e' => ?_)
  · obtain ⟨y4', y5', y6', rfl⟩ := hP
    have g := good du hm
    have eN := ea.trans e'
    have fu := g.z.fits (by decide) (by decide)
    have o14 := eN _ _ o13
    have lb14 := lb13.ex eN
    show tSeq _ _ _ [some (.ref x), some (.ref d), some (.ref Tl), some (.ref R), y4', some u, y6', none] H'
    have there : Ev (tAndV (tCB (rIsi K) (tCons (tVar 5) (tCons (tC (.ty "str")) tNil))) (tDIn (tVar 5) (tVar 1))) [some (.ref x), some (.ref d), some (.ref Tl), some (.ref R), y4', some u, y6', none] H' (.bl (inLib L du)) := by
      refine ev_is (ev_andV (a := isT "str" du) (b := inLib L du) (ev_cb (ea_cons (ev_var rfl) (ea_cons ev_c ea_nil)) (rc_isi hu' (by decide))) fun hs => ?_) ?_
      · obtain ⟨m, rfl⟩ : ∃ m, du = .str m := by
          cases du with
          | str m => exact ⟨m, rfl⟩
          | _ => exact absurd hs (by simp [isT, isTs, tyT])
        cases hu'
        refine fun H1 e1 Q' q' => ⟨.str m, rfl, .ref d, rfl, d, valV kvs (.inr m), rfl, DGet.k (k := .inr m) ((eN.trans e1) _ _ hk13), ?_⟩
        rw [nin (Ex.refl _) m]
        exact q' H1 (Ex.refl _)
      · cases du with
        | str m => rfl
        | _ => rfl
    refine q_asg there fun H15 e15' => ?_
    show tSeq _ _ _ [some (.ref x), some (.ref d), some (.ref Tl), some (.ref R), y4', some u, some (.bl (inLib L du)), none] H15
    have u15 := Dt.ex e15' hu'
    have hs15 : Ev (tMeth C "has_module" (spLHas C) [] E0 (tVar 0) (tCons (tVar 5) tNil)) [some (.ref x), some (.ref d), some (.ref Tl), some (.ref R), y4', some u, some (.bl (inLib L du)), none] H15 (.bl (inLib L du)) :=
      ev_mth (ev_var rfl) (e15' _ _ o14) rfl (ea_cons (ev_var rfl) ea_nil) (fun H1 e1 Q' q' E' => ⟨x, u, du, srtL L, rfl, (lb14.ex e15').ex e1, Dt.ex e1 u15, g.s, fun H2 e2 => by rw [hasL_in v]; exact q' H2 e2⟩)
    have fb : Fits (.bool (inLib L du)) := (sz_bool (b := 0) (m := 0)).fits (by decide) (by decide)
    refine q_when (b := false) (et_is (et_test (ev_op (ev_cb (ea_cons hs15 ea_nil) (rc_repr (.bl _) fb)) (ev_cb (ea_cons (ev_var rfl) ea_nil) (rc_repr (.bl _) fb)) (rv_ne rfl))) (by rw [decide_eq_true rfl]; rfl)) (fun z => nomatch z) (fun _ H16 e16 => ?_)
    have u16 := Dt.ex e16 u15
    refine s_when (b := false) (et_is (et_and (b := false) (et_not (et_B (ev_var rfl))) fun hb => et_is (et_neD (d := misD du) (e := misD du) ?_ ?_ ?_ ?_) ?_) (Bool.and_false _)) (fun z => nomatch z) (fun _ H17 e17 => ⟨⟨_, _, _, rfl⟩, ((e'.trans e15').trans e16).trans e17⟩)
    · rw [Bool.not_eq_true'] at hb
      exact fun H1 e1 Q' q' => ⟨.ref x, rfl, u, rfl, x, u, du, srtL L, rfl, ((lb14.ex e15').ex e16).ex e1, Dt.ex e1 u16, g.s, g.c, fu, by rw [hasL_in v]; exact hb, fun u' H2 e2 h2 => q' u' H2 e2 h2⟩
    · exact evd_lst (evda_cons (evd_of (ev_cb (ea_cons (ev_var rfl) ea_nil) (rc_repr u16 fu)) (.str _)) (evda_cons evd_bl (evda_cons evd_bl evda_nil))) (by show 3 ≤ 1000; decide)
    · exact mis_sha g.a
    · exact mis_sha g.a
    · rw [mis_eqv]
      rfl
  · obtain ⟨y4', y5', y6', rfl⟩ := hP
    have o14 := e' _ _ o13
    have lb14 := lb13.ex e'
    have hR14 := e' _ _ hR13
    have hS14 := e' _ _ hS13
    have fe := end_fits v l10 n0m
    have at0 : atI ((srtS (L.map (·.1))).map V.str) ((0 : Nat) : Int) = some (.str n0) := atI_nat (by rw [List.getElem?_map, hn0]; rfl)
    have pv0 := v.ok _ (progL_at v.nd n0m)
    have mods : EvD (tMeth C "modules" (spLMods C) [] E0 (tVar 0) tNil) [some (.ref x), some (.ref d), some (.ref Tl), some (.ref R), y4', y5', y6', none] H' (.list ((srtS (L.map (·.1))).map PyData.str)) := fun H1 e1 Q' q' =>
      ⟨.ref x, rfl, x, dx, _, rfl, e1 _ _ o14, rfl, x, srtL L, rfl, lb14.ex e1, fun l H2 zl e2 hl => q' (.ref l) H2 e2 (by rw [srt_names] at hl; exact .lst hl (dts_strs _))⟩
    have ini : EvD (tMeth C "initializer" (spLIniG C CU n) [] E0 (tVar 0) (tCons (tOp (rIxL K) (tCB rSrtD (tCons (tVar 1) tNil)) (tC (.int ((0 : Nat) : Int)))) tNil)) [some (.ref x), some (.ref d), some (.ref Tl), some (.ref R), y4', y5', y6', none] H' (progD (progL L n0)) := fun H1 e1 Q' q' =>
      ⟨.ref x, rfl, x, dx, _, rfl, e1 _ _ o14, rfl, ev_opL1 (r := rIxL K) (srtE e') (fun _ _ => ev_c) (fun p H2 hp e2 => rv_ixL (sq_of hp) at0) H1 e1 _ fun H2 e2 => ⟨x, .str n0, .str n0, srtL L, rfl, (lb14.ex e1).ex e2, .str n0, nm_sm (nmn n0m), ⟨rfl, by show 0 < n; omega⟩, fun m em _ l xs H3 zl e3 hl hxs => by
        injection em with em
        subst em
        rw [progL_srt v n0m] at hxs
        exact q' (.ref l) H3 (e2.trans e3) (.lst hl hxs), fun hf => by
        rw [hasL_in v] at hf
        exact absurd n0m (of_decide_eq_false hf)⟩⟩
    have left := evd_lst (evda_cons mods (evda_cons ini evda_nil)) (by show 2 ≤ 1000; decide)
    have d0 : Ev (tOp (rIxL K) (tVar 3) (tC (.int ((0 : Nat) : Int)))) [some (.ref x), some (.ref d), some (.ref Tl), some (.ref R), y4', y5', y6', none] H' (.ref S1) := ev_op (ev_var rfl) ev_c (rv_ixL (sq_of hR14) (atI_nat (j := 0) rfl))
    have right := evd_lst (evda_cons (evd_of d0 (.lst hS14 (dts_strs _))) (evda_cons (evd_prog (td := tVar 1) (ev_var rfl) (ev_op d0 ev_c (rv_ixL (K := K) (sq_of hS14) at0)) (Dt.ex e' hd13) n0m) evda_nil)) (by show 2 ≤ 1000; decide)
    refine s_ret (ev_is (ev_op (ev_reprD left fe) (ev_reprD right fe) (rv_eq rfl)) (by rw [decide_eq_true rfl])) fun H1 e1 => q H1 ((e0.trans e').trans e1)
end
end Cr
/-! pairs of names and programs (pure) -/
namespace Cr
open PySem PySem.Spec PyProof.Rows L2 Evl
def plainW : List Str := ["set", "add", "fail"]
def plainS : List PyData → Bool
  | .str z :: _ => decide (z ∈ plainW)
  | _ => false
def plP (p : Prog) : Prog := p.filter plainS
def failS : List PyData := [.str "fail"]
theorem plain_free {ds : List PyData} (h : plainS ds = true) : skipLen (.tuple ds) = none ∧ modO (.tuple ds) = none := by
  match ds, h with
  | .str z :: r, h =>
    have hz : z ∈ plainW := of_decide_eq_true h
    simp only [plainW, List.mem_cons, List.not_mem_nil, or_false] at hz
    refine ⟨skipLen_ne (by rcases hz with rfl | rfl | rfl <;> decide +kernel), ?_⟩
    have : spotOf z = none := by rcases hz with rfl | rfl | rfl <;> decide +kernel
    show (spotOf z).bind _ = none
    rw [this]
    rfl
/-- steps without modules and without skips -/
structure PlainPr (p : Prog) : Prop where
  l : p.length ≤ 30
  s : ∀ ds ∈ p, isStep (.tuple ds) = true ∧ plainS ds = true
  i : ∀ ds ∈ p, ∀ i, PyData.int i ∈ ds → i.natAbs ≤ 10 ^ 30
theorem PlainPr.v {p : Prog} (h : PlainPr p) : ProgV p := ⟨h.l, fun ds hd => (h.s ds hd).1, fun j ds hd => by
  have m := h.s ds (List.mem_of_getElem? hd)
  exact before_noskip m.1 (plain_free m.2).1, h.i⟩
theorem PlainPr.mi {p : Prog} (h : PlainPr p) (ns : List Str) : ∀ ds ∈ p, okMod ns ds = true := fun ds hd => by
  unfold okMod
  rw [(plain_free (h.s ds hd).2).2]
theorem plainP_of {p : Prog} (v : ProgV p) : PlainPr (plP p) := by
  refine ⟨Nat.le_trans (List.length_filter_le _ _) v.len, fun ds hd => ?_, fun ds hd => ?_⟩
  · obtain ⟨h1, h2⟩ := List.mem_filter.mp hd
    exact ⟨v.st ds h1, h2⟩
  · exact v.it ds (List.mem_filter.mp hd).1
theorem st_failS : isStep (.tuple failS) = true := by decide +kernel
theorem plain_fail {p : Prog} (h : PlainPr p) (l : p.length ≤ 29) : PlainPr (p ++ [failS]) := by
  refine ⟨by rw [List.length_append, List.length_singleton]; omega, fun ds hd => ?_, fun ds hd i hi => ?_⟩
  · rcases List.mem_append.mp hd with h1 | h1
    · exact h.s ds h1
    · rw [List.mem_singleton.mp h1]
      exact ⟨st_failS, by decide +kernel⟩
  · rcases List.mem_append.mp hd with h1 | h1
    · exact h.i ds h1 i hi
    · rw [List.mem_singleton.mp h1] at hi
      simp [failS] at hi
theorem dup_none {xs : List Str} (nd : xs.Nodup) : firstDup xs = none := dup_no fun j hj => by
  unfold dupAt
  refine decide_eq_false fun hm => ?_
  rw [getD_at _ hj] at hm
  rw [← List.take_append_drop j xs, List.nodup_append] at nd
  refine nd.2.2 _ hm xs[j] ?_ rfl
  rw [List.mem_iff_getElem?]
  exact ⟨0, by rw [List.getElem?_drop, Nat.add_zero, List.getElem?_eq_getElem hj]⟩
theorem cnt_le {a : Str} : ∀ {l : List Str}, l.Nodup → l.count a ≤ 1
  | [], _ => by rw [List.count_nil]; exact Nat.zero_le _
  | b :: l, nd => by
    obtain ⟨n1, n2⟩ := List.nodup_cons.mp nd
    have ih := cnt_le (a := a) n2
    rw [List.count_cons]
    by_cases e : b = a
    · rw [e] at n1
      rw [List.count_eq_zero_of_not_mem n1]
      split <;> omega
    · rw [if_neg (fun z => e (beq_iff_eq.mp z))]
      omega
theorem nodup_lenS : ∀ {xs ys : List Str}, xs.Nodup → (∀ a ∈ xs, a ∈ ys) → xs.length ≤ ys.length
  | [], _, _, _ => Nat.zero_le _
  | x :: xs, ys, nd, h => by
    obtain ⟨n1, n2⟩ := List.nodup_cons.mp nd
    have hx := h x List.mem_cons_self
    have le := List.length_erase_of_mem hx
    have pos := List.length_pos_of_mem hx
    have ih := nodup_lenS (xs := xs) (ys := ys.erase x) n2 fun a ha => (List.mem_erase_of_ne (fun e => n1 (by rw [← e]; exact ha))).mpr (h a (List.mem_cons_of_mem _ ha))
    rw [List.length_cons]
    omega
theorem dup_one {k0 : Str} {ks xs : List Str} (nd : ks.Nodup) (h0 : k0 ∈ ks) (pm : xs.Perm (ks ++ [k0])) : firstDup xs = some k0 := by
  cases hf : (List.range xs.length).find? (dupAt xs) with
  | none =>
    exfalso
    rw [List.find?_eq_none] at hf
    have ndx : xs.Nodup := by
      have go : ∀ i, i ≤ xs.length → (xs.take i).Nodup := by
        intro i
        induction i with
        | zero => intro _; rw [List.take_zero]; exact List.nodup_nil
        | succ i ih =>
          intro hi
          have z := hf i (List.mem_range.mpr (by omega))
          unfold dupAt at z
          rw [getD_at _ (show i < xs.length by omega), decide_eq_true_eq] at z
          rw [List.take_add_one, List.getElem?_eq_getElem (show i < xs.length by omega)]
          refine List.nodup_append.mpr ⟨ih (by omega), by simp, fun a ha b hb e => ?_⟩
          have hb : b = xs[i] := by simpa using hb
          rw [e, hb] at ha
          exact z ha
      have z := go xs.length (Nat.le_refl _)
      rw [List.take_length] at z
      exact z
    have := (pm.nodup_iff.mp ndx)
    rw [List.nodup_append] at this
    exact this.2.2 k0 h0 k0 (List.mem_singleton.mpr rfl) rfl
  | some i =>
    have hi : i < xs.length := List.mem_range.mp (List.mem_of_find?_eq_some hf)
    have hd : dupAt xs i = true := List.find?_some hf
    unfold firstDup
    rw [hf]
    show some (xs.getD i "") = some k0
    unfold dupAt at hd
    rw [decide_eq_true_eq, getD_at _ hi] at hd
    rw [getD_at _ hi]
    congr 1
    have hdr : xs[i] ∈ xs.drop i := by
      rw [List.mem_iff_getElem?]
      exact ⟨0, by rw [List.getElem?_drop, Nat.add_zero, List.getElem?_eq_getElem hi]⟩
    generalize xs[i] = a at hd hdr
    have c2 : 2 ≤ xs.count a := by
      have e : xs.count a = (xs.take i).count a + (xs.drop i).count a := by rw [← List.count_append, List.take_append_drop]
      have a1 : 1 ≤ (xs.take i).count a := List.count_pos_iff.mpr hd
      have a2 : 1 ≤ (xs.drop i).count a := List.count_pos_iff.mpr hdr
      omega
    rw [pm.count_eq, List.count_append] at c2
    have c1 : ks.count a ≤ 1 := cnt_le nd
    have c3 : 1 ≤ [k0].count a := by omega
    exact List.mem_singleton.mp (List.count_pos_iff.mp c3)
theorem perm_inv {α β : Type} {f : α → β} : ∀ {xs ys : List β}, xs.Perm ys → ∀ {l : List α}, ys = l.map f → ∃ l2 : List α, l2.Perm l ∧ xs = l2.map f := by
  intro xs ys h
  induction h with
  | nil =>
    intro l e
    cases l with
    | nil => exact ⟨[], .nil, rfl⟩
    | cons a l => simp at e
  | @cons x l1 l2 _ ih =>
    intro l e
    cases l with
    | nil => simp at e
    | cons a l =>
      rw [List.map_cons] at e
      injection e with e1 e2
      obtain ⟨l3, p, rfl⟩ := ih e2
      exact ⟨a :: l3, p.cons a, by rw [e1]; rfl⟩
  | @swap x y l1 =>
    intro l e
    match l, e with
    | [], e => simp at e
    | [a], e => simp at e
    | a :: b :: l, e =>
      rw [List.map_cons, List.map_cons] at e
      injection e with e1 e2
      injection e2 with e2 e3
      exact ⟨b :: a :: l, List.Perm.swap a b l, by rw [e1, e2, e3]; rfl⟩
  | trans _ _ ih1 ih2 =>
    intro l e
    obtain ⟨l2, p2, e2⟩ := ih2 e
    obtain ⟨l3, p3, e3⟩ := ih1 e2
    exact ⟨l3, p3.trans p2, e3⟩
theorem names_of {ss : PrS} (nm : ∀ r ∈ ss, isNameS r.1 = true) : namesOf (prD ss) = ss.map (·.1) := by
  unfold namesOf prD
  rw [List.filter_eq_self.mpr fun e he => by obtain ⟨r, hr, rfl⟩ := List.mem_map.mp he; exact nm r hr, List.map_map]
  rfl
theorem pair_ok {ns : List Str} {x : Str} {p : Prog} (nx : isNameS x = true) (h : PlainPr p) : pairDue ns (.str x) (progD p) = none := by
  unfold pairDue
  rw [if_pos (show isName (.str x) = true from nx)]
  exact due_prog h.v (h.mi ns)
/-- pairs with good programs -/
theorem due_goodL {ss : PrS} (nm : ∀ r ∈ ss, isNameS r.1 = true) (nd : (ss.map (·.1)).Nodup) (l1 : 1 ≤ ss.length) (l40 : ss.length ≤ 40) (ok : ∀ r ∈ ss, ∃ p, r.2 = progD p ∧ PlainPr p) : ofDue ss = none := by
  unfold ofDue
  rw [dup_none nd]
  unfold pairsDue
  have lp : (prD ss).length = ss.length := by unfold prD; rw [List.length_map]
  rw [if_pos ⟨by omega, by omega⟩]
  refine wrong_no fun m e he => ?_
  have hm := List.mem_of_getElem? he
  obtain ⟨r, hr, rfl⟩ := List.mem_map.mp hm
  obtain ⟨p, e, hp⟩ := ok r hr
  show pairDue _ (.str r.1) r.2 = none
  rw [e]
  exact pair_ok (nm r hr) hp
/-- the last of the pairs has a problem at its second step -/
theorem due_last {ss : PrS} {x : Str} {d : PyData} (nm : ∀ r ∈ ss, isNameS r.1 = true) (nx : isNameS x = true) (nd : ((ss ++ [(x, d)]).map (·.1)).Nodup) (l40 : ss.length ≤ 39) (ok : ∀ r ∈ ss, ∃ p, r.2 = progD p ∧ PlainPr p)
    (bad : dueOf (some ((ss ++ [(x, d)]).map fun r => V.str r.1)) false d = some 1) : ofDue (ss ++ [(x, d)]) = some (.str x, 1) := by
  have nm2 : ∀ r ∈ ss ++ [(x, d)], isNameS r.1 = true := fun r hr => by
    rcases List.mem_append.mp hr with h | h
    · exact nm r h
    · rw [List.mem_singleton.mp h]; exact nx
  unfold ofDue
  rw [dup_none nd]
  unfold pairsDue
  have lp : (prD (ss ++ [(x, d)])).length = ss.length + 1 := by unfold prD; rw [List.length_map, List.length_append]; rfl
  rw [if_pos ⟨by omega, by omega⟩, names_of nm2]
  have ep : prD (ss ++ [(x, d)]) = prD ss ++ [(.str x, d)] := by unfold prD; rw [List.map_append]; rfl
  have lq : (prD ss).length = ss.length := by unfold prD; rw [List.length_map]
  rw [ep]
  refine wrong_at (j := ss.length) (e := (.str x, d)) (fun m hm e' he => ?_) (by rw [List.getElem?_append_right (by omega), lq, Nat.sub_self]; rfl) ?_
  · rw [List.getElem?_append_left (by omega)] at he
    have hm := List.mem_of_getElem? he
    obtain ⟨r, hr, rfl⟩ := List.mem_map.mp hm
    obtain ⟨p, e, hp⟩ := ok r hr
    show pairDue _ (.str r.1) r.2 = none
    rw [e]
    exact pair_ok (nm r hr) hp
  · unfold pairDue
    rw [if_pos (show isName (.str x) = true from nx)]
    have e : ((ss ++ [(x, d)]).map (·.1)).map V.str = (ss ++ [(x, d)]).map fun r => V.str r.1 := by rw [List.map_map]; rfl
    rw [e]
    exact bad
def freeN : List Str := ["zzzzzzzz", "q", "ab", "k"]
def lateS (x : Str) : List (List PyData) := [[.str "need", .str x], [.str "try", .str x, .str "a"], [.str "read", .str "a", .str x, .str "x"]]
theorem late_ok : ∀ x ∈ freeN, ∀ ds ∈ lateS x, isStep (.tuple ds) = true ∧ modO (.tuple ds) = some x ∧ smAll ds = true := by
  intro x hx ds hd
  simp only [freeN, List.mem_cons, List.not_mem_nil, or_false] at hx
  rcases hx with rfl | rfl | rfl | rfl <;> · (
    simp only [lateS, List.mem_cons, List.not_mem_nil, or_false] at hd
    rcases hd with rfl | rfl | rfl <;> decide +kernel)
theorem late_bad {ns : List Str} {x : Str} (hx : x ∈ freeN) (hn : x ∉ ns) {ds : List PyData} (hd : ds ∈ lateS x) : dueOf (some (ns.map V.str)) false (.list [.tuple failS, .tuple ds]) = some 1 := by
  obtain ⟨h1, h2, _⟩ := late_ok x hx ds hd
  have h30 : ¬ [PyData.tuple failS, PyData.tuple ds].length > 30 := by show ¬ 2 > 30; decide
  have e : dueOf (some (ns.map V.str)) false (.list [.tuple failS, .tuple ds]) = Option.map (fun i : Nat => (i : Int)) (firstBad (some (ns.map V.str)) false [.tuple failS, .tuple ds]) := by
    rw [dueOf, if_neg h30]
    cases firstBad (some (ns.map V.str)) false [.tuple failS, .tuple ds] <;> rfl
  rw [e, first_at (i := 1) (by show 1 < 2; decide) ?_ fun j hj => ?_]
  · rfl
  · unfold wrongAt fitsIn
    show (!(isBefore (.tuple ds) _ && modsOk (some (ns.map V.str)) (.tuple ds)) || _) = true
    have m : modsOk (some (ns.map V.str)) (.tuple ds) = false := by
      unfold modsOk
      rw [h2]
      show ([x].all fun x => inV (.str x) (ns.map V.str)) = false
      rw [List.all_cons, List.all_nil, Bool.and_true, inV_strs]
      cases hh : ns.any (fun y => y == x) with
      | false => rfl
      | true =>
        obtain ⟨y, hy, e⟩ := List.any_eq_true.mp hh
        exact absurd (by rw [← beq_iff_eq.mp e]; exact hy) hn
    rw [m, Bool.and_false]
    rfl
  · obtain rfl : j = 0 := by omega
    unfold wrongAt fitsIn
    show (!(isBefore (.tuple failS) _ && modsOk (some (ns.map V.str)) (.tuple failS)) || _) = false
    rw [before_noskip st_failS (by decide +kernel)]
    have m : modsOk (some (ns.map V.str)) (.tuple failS) = true := by
      unfold modsOk
      rw [show modO (.tuple failS) = none by decide +kernel]
      rfl
    rw [m]
    rfl
theorem free_some {ks : List Str} (l : ks.length ≤ 3) : ∃ x, (freeN.filter fun x => !decide (x ∈ ks)).head? = some x ∧ x ∈ freeN ∧ x ∉ ks := by
  cases hf : freeN.filter fun x => !decide (x ∈ ks) with
  | nil =>
    exfalso
    rw [List.filter_eq_nil_iff] at hf
    have sub : ∀ x ∈ freeN, x ∈ ks := fun x hx => by
      have z := hf x hx
      simpa using z
    have nd : freeN.Nodup := by decide +kernel
    have := nodup_lenS nd sub
    have e : freeN.length = 4 := rfl
    omega
  | cons x r =>
    have m : x ∈ freeN.filter fun x => !decide (x ∈ ks) := by rw [hf]; exact List.mem_cons_self
    obtain ⟨h1, h2⟩ := List.mem_filter.mp m
    exact ⟨x, rfl, h1, by simpa using h2⟩
end Cr
/-! pairs of names and programs in the heap -/
namespace Cr
open PySem PySem.Spec PyProof.Rows L2 Evl
structure PRow where
  t : Addr
  n : Str
  l : Addr
  pr : Prog
structure PRowAt (H : Hp) (r : PRow) : Prop where
  ht : H r.t = some (.tup [.str r.n, .ref r.l])
  hl : ∃ xs, H r.l = some (.lst xs) ∧ DtAll H xs (r.pr.map PyData.tuple)
theorem PRowAt.ex {H H' : Hp} {r : PRow} (h : PRowAt H r) (e : Ex H H') : PRowAt H' r := by
  obtain ⟨xs, h1, h2⟩ := h.hl
  exact ⟨e _ _ h.ht, xs, e _ _ h1, DtAll.ex e h2⟩
theorem PRowAt.pr {H : Hp} {r : PRow} (h : PRowAt H r) : PrAt H r.t (.str r.n, progD r.pr) := by
  obtain ⟨xs, h1, h2⟩ := h.hl
  exact ⟨_, _, h.ht, .str _, .lst h1 h2⟩
def rowP (r : PRow) : Str × PyData := (r.n, progD r.pr)
theorem rows_prs {H : Hp} : ∀ {rs : List PRow}, (∀ r ∈ rs, PRowAt H r) → PrsAt H (rs.map (·.t)) (prD (rs.map rowP))
  | [], _ => .nil
  | r :: rs, h => .cons (h r List.mem_cons_self).pr (rows_prs fun y hy => h y (List.mem_cons_of_mem _ hy))
theorem pairs_lc {K : PySem.W.Frag} {tl tn : TE} {σ : L2.St} {H : Hp} {j : Nat} {a : Addr} {ns : List Str} {Q : VK} (pf : Str → Prog) (xf : Str → List V) (hl : Ev tl σ H (.ref a)) (ha : H a = some (.lst (ns.map V.str))) (hz : ns.length ≤ 1000) (hj : ∀ x, wipe ((wipe σ [j]).set j (some x)) [j] = wipe σ [j]) (hjl : j < σ.length) (hwl : (wipe σ [j]).length = σ.length)
    (ht : ∀ n ∈ ns, ∀ H2, Ex H H2 → EvL tn ((wipe σ [j]).set j (some (.str n))) H2 (xf n)) (hx : ∀ n ∈ ns, DtAll H (xf n) ((pf n).map PyData.tuple))
    (q : ∀ B (rs : List PRow) H2, H B = none → Ex H H2 → H2 B = some (.lst (rs.map fun r => V.ref r.t)) → rs.map (·.n) = ns → (∀ r ∈ rs, r.pr = pf r.n ∧ PRowAt H2 r ∧ H r.t = none ∧ H r.l = none ∧ r.t ≠ B ∧ r.l ≠ B) → (rs.map (·.l)).Nodup → Q (.ref B) H2) :
    tLc (iList K tl) (gName j) tYes (tTup (tCons (tVar j) (tCons tn tNil))) [j] σ H Q := by
  refine hl H (Ex.refl H) _ fun H1 e1 => ⟨a, rfl, ⟨_, sq_of (e1 _ _ ha)⟩, fun D hD => ?_⟩
  have ha1 := e1 _ _ ha
  have wk := walk_list (K := K) (a := a) (xs := ns.map V.str)
  rw [List.length_map] at wk
  refine lc_it wk (fun i H2 => ∃ rs : List PRow, H2 D = some (.lst (rs.map fun r => V.ref r.t)) ∧ rs.map (·.n) = ns.take i ∧ (∀ r ∈ rs, r.pr = pf r.n ∧ r.t ≠ D ∧ H2 r.t = some (.tup [.str r.n, .ref r.l]) ∧ H1 r.t = none ∧ H1 r.l = none ∧ r.l ≠ D ∧ H2 r.l = some (.lst (xf r.n))) ∧ (rs.map (·.l)).Nodup ∧ Ex H1 (wo D H2))
    ⟨[], upd_same, rfl, fun r h => (nomatch h), List.nodup_nil, fun c o hb => by rw [wo_ne (ne_of_none hb hD), upd_ne (ne_of_none hb hD)]; exact hb⟩ (fun i H2 _ z => ?_) (fun i x H2 H3 hlt z y => ?_) (fun H2 z => ?_)
  · obtain ⟨_, _, _, _, _, ex2⟩ := z
    exact sq_of ((ex2.trans (wo_ex D H2)) _ _ ha1)
  · obtain ⟨rs, hD2, hrs, hr, hnd, ex2⟩ := z
    obtain ⟨rfl, hy⟩ := y
    rw [List.getElem?_map] at hy
    obtain ⟨n, hn, rfl⟩ : ∃ n, ns[i]? = some n ∧ V.str n = x := by
      cases hh : ns[i]? with
      | none => rw [hh] at hy; cases hy
      | some z => rw [hh] at hy; exact ⟨z, rfl, Option.some.inj hy⟩
    have low := ex2.trans (wo_ex D H3)
    refine ⟨hj _, ?_⟩
    refine (show EvT tYes _ H3 true from fun H1 _ Q q => q H1 (Ex.refl H1)) H3 (Ex.refl H3) _ fun H5 e5 => ?_
    rw [if_pos rfl]
    replace hD2 := e5 _ _ hD2
    replace hr : ∀ r ∈ rs, r.pr = pf r.n ∧ r.t ≠ D ∧ H5 r.t = some (.tup [.str r.n, .ref r.l]) ∧ H1 r.t = none ∧ H1 r.l = none ∧ r.l ≠ D ∧ H5 r.l = some (.lst (xf r.n)) := fun r h => by
      obtain ⟨a1, a2, a3, a4, a5, a6, a7⟩ := hr r h
      exact ⟨a1, a2, e5 _ _ a3, a4, a5, a6, e5 _ _ a7⟩
    have low5 := low.trans e5
    refine ⟨.str n, List.getElem?_set_self (by rw [hwl]; exact hjl), ht n (List.mem_of_getElem? hn) H5 (e1.trans low5) H5 (Ex.refl H5) _ fun l H4 zl e4 hl' => ⟨by show 2 ≤ sizeLine; decide, fun T zT => ?_⟩⟩
    have hD4 := e4 _ _ hD2
    have nT : T ≠ D := fun z => by rw [z, hD4] at zT; cases zT
    have nlD : l ≠ D := fun z => by rw [z, hD2] at zl; cases zl
    have e5' : Ex H4 (upd H4 T (.tup [.str n, .ref l])) := Ex.new zT
    have nlT : l ≠ T := fun z => by rw [z, zT] at hl'; cases hl'
    have ll : rs.length ≤ ns.length := by
      have := congrArg List.length hrs
      rw [List.length_map, List.length_take] at this
      omega
    have lowH : Ex H1 H4 := low5.trans e4
    refine ⟨_, e5' _ _ hD4, by rw [List.length_map, sizeLine_eq]; omega, rs ++ [⟨T, n, l, pf n⟩], ?_, ?_, fun r hr' => ?_, ?_, fun c o hc => ?_⟩
    · rw [upd_same, List.map_append]
      rfl
    · rw [List.map_append, hrs, List.take_add_one, hn]
      rfl
    · rcases List.mem_append.mp hr' with h | h
      · obtain ⟨h0, h1, h2, h2', h3, h4, h5⟩ := hr r h
        refine ⟨h0, h1, ?_, h2', h3, h4, ?_⟩
        · rw [upd_ne h1]; exact e5' _ _ (e4 _ _ h2)
        · rw [upd_ne h4]; exact e5' _ _ (e4 _ _ h5)
      · rw [List.mem_singleton.mp h]
        refine ⟨rfl, nT, ?_, fresh_back lowH zT, fresh_back low5 zl, nlD, ?_⟩
        · rw [upd_ne nT]; exact upd_same
        · rw [upd_ne nlD, upd_ne nlT]; exact hl'
    · rw [List.map_append]
      refine List.nodup_append.mpr ⟨hnd, by simp, fun a ha b hb e => ?_⟩
      obtain ⟨r, hr1, rfl⟩ := List.mem_map.mp ha
      have hb := List.mem_singleton.mp hb
      have h5 := (hr r hr1).2.2.2.2.2.2
      have e2 : r.l = l := e.trans hb
      rw [e2, zl] at h5
      cases h5
    · rw [wo_ne (ne_of_none hc hD), upd_ne (ne_of_none hc hD)]
      exact e5' _ _ (e4 _ _ (low5 _ _ hc))
  · obtain ⟨rs, hD2, hrs, hr, hnd, ex2⟩ := z
    rw [List.take_length] at hrs
    have low := ex2.trans (wo_ex D H2)
    refine q D rs H2 (fresh_back e1 hD) (e1.trans low) hD2 hrs (fun r hr' => ?_) hnd
    obtain ⟨h0, h1, h2, h2', h3, h4, h5⟩ := hr r hr'
    have hm : r.n ∈ ns := by rw [← hrs]; exact List.mem_map_of_mem hr'
    exact ⟨h0, ⟨h2, _, h5, by rw [h0]; exact DtAll.ex (e1.trans low) (hx _ hm)⟩, fresh_back e1 h2', fresh_back e1 h3, h1, h4⟩
/-- the steps of a list that a test picks -/
def flV (xs : List V) (p : Prog) : List V := ((xs.zip p).filter fun z => plainS z.2).map (·.1)
theorem flV_dt {H : Hp} : ∀ {xs : List V} {p : Prog}, DtAll H xs (p.map PyData.tuple) → DtAll H (flV xs p) ((plP p).map PyData.tuple)
  | [], [], _ => .nil
  | x :: xs, ds :: p, h => by
    cases h with
    | cons h t =>
      have ih := flV_dt t
      unfold flV plP at ih ⊢
      rw [List.zip_cons_cons, List.filter_cons, List.filter_cons]
      by_cases c : plainS ds = true
      · rw [if_pos c, if_pos c]
        exact .cons h ih
      · rw [if_neg c, if_neg c]
        exact ih
  | [], _ :: _, h => nomatch h
  | _ :: _, [], h => nomatch h
theorem el_plain {K : PySem.W.Frag} {tl : TE} {σ : L2.St} {H : Hp} {j : Nat} {a : Addr} {xs : List V} {p : Prog} (hl : Ev tl σ H (.ref a)) (ha : H a = some (.lst xs)) (hx : DtAll H xs (p.map PyData.tuple)) (hp : ∀ ds ∈ p, isStep (.tuple ds) = true) (l30 : p.length ≤ 30) (hw : ∀ x, wipe ((wipe σ [j]).set j (some x)) [j] = wipe σ [j]) (hg : ∀ x, ((wipe σ [j]).set j (some x))[j]? = some (some x)) :
    EvL (tLc (iList K tl) (gName j) (tTest (tOp (rIn K false) (tOp (rIxT K) (tVar j) (tC (.int 0))) (tTup (tCons (tC (.str "set")) (tCons (tC (.str "add")) (tCons (tC (.str "fail")) tNil)))))) (tVar j) [j]) σ H (flV xs p) := by
  have lx := hx.length
  rw [List.length_map] at lx
  have lz : (xs.zip p).length = xs.length := by rw [List.length_zip, lx, Nat.min_self]
  have lc := el_lcL (K := K) (tl := tl) (te := tVar j) (j := j) (vs := [j]) (σ := σ) (H := H) (a := a) (xs := xs) (t := tTest (tOp (rIn K false) (tOp (rIxT K) (tVar j) (tC (.int 0))) (tTup (tCons (tC (.str "set")) (tCons (tC (.str "add")) (tCons (tC (.str "fail")) tNil))))))
    (fun i => plainS ((xs.zip p).getD i (.non, [])).2) (fun i => ((xs.zip p).getD i (.non, [])).1) hl (sq_of ha) (by omega) hw (fun i x H1 e1 hi => ?_) (fun i x H1 e1 hi _ => ?_)
  · have e : given xs.length (fun i => plainS ((xs.zip p).getD i (.non, [])).2) (fun i => ((xs.zip p).getD i (.non, [])).1) = flV xs p := by
      rw [← lz]
      exact given_flt (xs.zip p) (.non, []) (fun z => plainS z.2) (fun z => z.1)
    rw [e] at lc
    exact lc
  all_goals
    have hil : i < xs.length := (List.getElem?_eq_some_iff.mp hi).1
    have hxi : xs[i] = x := (List.getElem?_eq_some_iff.mp hi).2
    have gz : (xs.zip p).getD i (.non, []) = (xs[i], p[i]'(by omega)) := by rw [getD_at _ (by omega), List.getElem_zip]
    rw [gz]
  · obtain ⟨d, hd, dx⟩ := DtAll.get hx hi
    rw [List.getElem?_map, List.getElem?_eq_getElem (show i < p.length by omega)] at hd
    cases hd
    have st := hp p[i] (List.getElem_mem _)
    generalize p[i]'(by omega) = ds at st dx
    obtain ⟨z, r, ks, rfl, _⟩ := step_parts st
    cases Dt.ex e1 dx with
    | @tup b us _ hb hus =>
      cases hus with
      | @cons u _ _ _ h1 _ =>
        cases h1
        refine et_is (et_test (ev_inU (ev_op (ev_var (hg _)) ev_c (rv_ixT (st_of hb) (atI_nat (j := 0) rfl))) (eu_tup (ea_cons ev_c (ea_cons ev_c (ea_cons ev_c ea_nil))) (by show 3 ≤ 100000; decide)) rfl rfl)) ?_
        show inV (.str z) [V.str "set", V.str "add", V.str "fail"] = decide (z ∈ plainW)
        have e2 : [V.str "set", V.str "add", V.str "fail"] = plainW.map V.str := rfl
        rw [e2, inV_strs]
        rw [Bool.eq_iff_iff, List.any_eq_true, decide_eq_true_eq]
        exact ⟨fun ⟨y, hy, e⟩ => by rw [← beq_iff_eq.mp e]; exact hy, fun h => ⟨z, h, beq_self_eq_true z⟩⟩
  · rw [hxi]
    exact ev_var (hg _)
/-- a library that is new stays while what was known changes -/
theorem LbNw.keepN {C x : Addr} {H0 H H' : Hp} {L : Lib} (h : LbNw C H0 H x L) (sv : StepsV L) (zx : H0 x = none) (k : ∀ c o, H0 c = none → H c = some o → H' c = some o) (tp : Tps H H') : LbNw C H0 H' x L := by
  obtain ⟨dx, dd, kvs, h1, h2, h3, h4, h5⟩ := h.ob
  refine ⟨dx, dd, kvs, k _ _ zx h1, k _ _ h4 h2, ?_, h4, h5⟩
  clear h1 h2 h4 h
  induction L generalizing kvs with
  | nil =>
    rw [lkv_nil h3]
    exact .nil
  | cons r L ih =>
    obtain ⟨v, kvs', rfl, hv, h3'⟩ := lkv_inv h3
    obtain ⟨al, e1, z1⟩ := h5 _ List.mem_cons_self
    have e1 : v = .ref al := e1
    subst e1
    cases hv with
    | @lst _ xs _ ha hxs =>
      exact .cons (k := Sum.inr r.1) (.lst (k _ _ z1 ha) (dts_step tp hxs (sv r List.mem_cons_self))) (ih (fun y hy => sv y (List.mem_cons_of_mem _ hy)) kvs' h3' fun e he => h5 e (List.mem_cons_of_mem _ he))
theorem LbNw.keep {C x : Addr} {H0 H H' : Hp} {L : Lib} (h : LbNw C H0 H x L) (sv : StepsV L) (zx : H0 x = none) (k : ∀ c o, H0 c = none → H c = some o → H' c = some o) (tp : Tps H H') : LbAt C H' x L := (h.keepN sv zx k tp).at_
end Cr
/-! k14: libraries of pairs -/
namespace Cr
open PySem PySem.Spec PyProof.Rows L2 Evl
abbrev sPR : Stmt := topS 45
abbrev nPR : List Str := ["_law_pot_here", "_law_modules_here", "_law_names", "_law_pairs", "_law_due", "_law_made", "_law_name", "_law_program_here", "_law_twice", "_law_free", "_law_step"]
theorem scPR : FnScope nPR ["_law_pot_here", "_law_modules_here"] (defScope sPR) := ⟨rfl, rfl, rfl, by decide +kernel, rfl, by decide +kernel, by decide +kernel⟩
def scP2 : Scope := { kind := .function, names := [(".0", .local), ("_law_name", .local), ("_law_modules_here", .cell)], isGenerator := false, isCoroutine := false, more := [] }
def spPR : Sp := fun vs H Q _ => ∃ (p d : Addr) (L : Lib), vs = [.ref p, .ref d] ∧ Pot H p ∧ Dt H (.ref d) (libD L) ∧ LibOk L ∧ (∀ r ∈ L, r.2.length ≤ 10) ∧ ∀ H', Drew p H H' → Q (.bl true) H'
theorem make_ofP {C : Addr} {sp : Sp} {dvs : List V} {E : XK} {t1 : TE} {σ : L2.St} {H : Hp} {Q : VK} (h : t1 σ H fun v H1 => tMake C sp dvs E (tCons (tC v) tNil) σ H1 Q) : tMake C sp dvs E (tCons t1 tNil) σ H Q := h
def libR (rs : List PRow) : Lib := rs.map fun r => (r.n, r.pr)
theorem rows_lkv {H : Hp} : ∀ {rs : List PRow}, (∀ r ∈ rs, PRowAt H r) → LKv H (rs.map fun r => ((.inr r.n : Key), V.ref r.l)) (libR rs)
  | [], _ => .nil
  | r :: rs, h => by
    obtain ⟨xs, h1, h2⟩ := (h r List.mem_cons_self).hl
    exact .cons (k := Sum.inr r.n) (.lst h1 h2) (rows_lkv fun y hy => h y (List.mem_cons_of_mem _ hy))
theorem rows_paired {K : PySem.W.Frag} {H : Hp} : ∀ {rs : List PRow}, (∀ r ∈ rs, PRowAt H r) → Paired (fun p (kv : Key × V) => SqT K H p [kV kv.1, kv.2]) (rs.map (·.t)) (rs.map fun r => ((.inr r.n : Key), V.ref r.l))
  | [], _ => .nil
  | r :: rs, h => .cons (st_of (h r List.mem_cons_self).ht) (rows_paired fun y hy => h y (List.mem_cons_of_mem _ hy))
theorem libR_names (rs : List PRow) : (libR rs).map (·.1) = rs.map (·.n) := by
  unfold libR
  rw [List.map_map]
  rfl
theorem libR_ok {rs : List PRow} (nd : (rs.map (·.n)).Nodup) (nm : ∀ r ∈ rs, isNameS r.n = true) (l1 : 1 ≤ rs.length) (l40 : rs.length ≤ 40) (ok : ∀ r ∈ rs, PlainPr r.pr) : LibOk (libR rs) := by
  have ll : (libR rs).length = rs.length := List.length_map ..
  have mem : ∀ y ∈ libR rs, ∃ r ∈ rs, y = (r.n, r.pr) := fun y hy => by
    obtain ⟨r, hr, e⟩ := List.mem_map.mp hy
    exact ⟨r, hr, e.symm⟩
  refine ⟨⟨fun y hy => ?_, by rw [libR_names]; exact nd, by omega, by omega, fun y hy => ?_⟩, fun y hy => ?_⟩
  · obtain ⟨r, hr, rfl⟩ := mem y hy
    exact nm r hr
  · obtain ⟨r, hr, rfl⟩ := mem y hy
    exact (ok r hr).v
  · obtain ⟨r, hr, rfl⟩ := mem y hy
    exact (ok r hr).mi _
theorem rows_libS (rs : List PRow) : rs.map rowP = libS (libR rs) := by
  unfold libS libR
  rw [List.map_map]
  rfl
theorem nd_ne {α β : Type} {f : α → β} {l : List α} {m i : Nat} {a b : α} (nd : (l.map f).Nodup) (ha : l[m]? = some a) (hb : l[i]? = some b) (h : m ≠ i) : f a ≠ f b := fun e => by
  have hm := (List.getElem?_eq_some_iff.mp ha)
  have hi := (List.getElem?_eq_some_iff.mp hb)
  obtain ⟨hm1, hm2⟩ := hm
  obtain ⟨hi1, hi2⟩ := hi
  have z := List.pairwise_iff_getElem.mp nd
  have lm : m < (l.map f).length := by rw [List.length_map]; exact hm1
  have li : i < (l.map f).length := by rw [List.length_map]; exact hi1
  rcases Nat.lt_or_gt_of_ne h with g | g
  · have y := z m i lm li g
    rw [List.getElem_map, List.getElem_map, hm2, hi2] at y
    exact y e
  · have y := z i m li lm g
    rw [List.getElem_map, List.getElem_map, hm2, hi2] at y
    exact y e.symm
theorem PRowAt.drew {H H' : Hp} {p : Addr} {r : PRow} (h : PRowAt H r) (d : Drew p H H') (pot : Pot H p) (st : ∀ ds ∈ r.pr, isStep (.tuple ds) = true) : PRowAt H' r := by
  obtain ⟨xs, h1, h2⟩ := h.hl
  have tp := d.tps pot
  obtain ⟨i, j, hp, _⟩ := pot
  exact ⟨d.at (fun e => by have z := h.ht; rw [e, hp] at z; cases z) h.ht, xs, d.at (fun e => by
    rw [e, hp] at h1
    cases h1
    cases hq : r.pr with
    | nil => rw [hq] at h2; cases h2
    | cons a l => rw [hq] at h2; cases h2 with | cons h0 _ => cases h0) h1, dts_step tp h2 st⟩
def rowsD (r : PRow) : PyData := .tuple [.str r.n, progD r.pr]
theorem rows_wo {H : Hp} {p : Addr} (pot : Pot H p) : ∀ {rs : List PRow}, (∀ r ∈ rs, PRowAt H r) → (∀ r ∈ rs, ∀ ds ∈ r.pr, isStep (.tuple ds) = true) → DtAll (wo p H) (rs.map fun r => V.ref r.t) (rs.map rowsD)
  | [], _, _ => .nil
  | r :: rs, h, st => by
    obtain ⟨i, j, hp, z⟩ := pot
    have h0 := h r List.mem_cons_self
    obtain ⟨xs, h1, h2⟩ := h0.hl
    refine .cons (.tup (by rw [wo_ne (fun e => by have z := h0.ht; rw [e, hp] at z; cases z)]; exact h0.ht) (.cons (.str _) (.cons (prog_wo hp (.lst h1 h2) (st r List.mem_cons_self)) .nil))) (rows_wo ⟨i, j, hp, z⟩ (fun y hy => h y (List.mem_cons_of_mem _ hy)) fun y hy => st y (List.mem_cons_of_mem _ hy))
theorem zip_map {α β γ : Type} (f : α → β) (g : α → γ) : ∀ l : List α, (l.map f).zip (l.map g) = l.map fun x => (f x, g x)
  | [] => rfl
  | a :: l => by rw [List.map_cons, List.map_cons, List.zip_cons_cons, zip_map f g l]; rfl
theorem rows_sha {rs : List PRow} (nm : ∀ r ∈ rs, isNameS r.n = true) (st : ∀ r ∈ rs, ∀ ds ∈ r.pr, isStep (.tuple ds) = true) {es : List PyData} (h : ∀ e ∈ es, e ∈ rs.map rowsD) : SeqAt.shaped (.list es) = true := by
  have go : ∀ es : List PyData, (∀ e ∈ es, e ∈ rs.map rowsD) → PyData.canLayAll0 es = true ∧ PyData.depthAll es ≤ 3 := by
    intro es
    induction es with
    | nil => exact fun _ => ⟨rfl, Nat.zero_le _⟩
    | cons e r ih =>
      intro h
      obtain ⟨a, b⟩ := ih fun z hz => h z (List.mem_cons_of_mem _ hz)
      obtain ⟨x, hx, rfl⟩ := List.mem_map.mp (h e List.mem_cons_self)
      obtain ⟨c1, c2⟩ := lay_prog (st x hx)
      have n1 := name_strOk (nm x hx)
      refine ⟨?_, ?_⟩
      · rw [PyData.canLayAll0, a]
        unfold rowsD
        rw [PyData.canLay0, PyData.canLayAll0, PyData.canLayAll0, PyData.canLayAll0, PyData.canLay0, n1, c1]
        rfl
      · rw [PyData.depthAll]
        unfold rowsD
        rw [PyData.depth, PyData.depthAll, PyData.depthAll, PyData.depthAll]
        have e0 : (PyData.str x.n).depth = 0 := rfl
        omega
  obtain ⟨a, b⟩ := go es h
  unfold SeqAt.shaped
  rw [PyData.canLay0, a, PyData.depth, decide_eq_true (by omega)]
  rfl
theorem due2_sha {x : Str} (h : isNameS x = true) (i : Int) : SeqAt.shaped (.list [.str x, .int i]) = true := by
  unfold SeqAt.shaped
  rw [PyData.canLay0, PyData.canLayAll0, PyData.canLay0, name_strOk h]
  rfl
theorem due2_eqv (x : Str) (i : Int) : PyData.eqv (.list [.str x, .int i]) (.list [.str x, .int i]) = true := by
  simp [PyData.eqv, PyData.eqvAll]
theorem atI_last {α : Type} {l : List α} {a : α} : atI (l ++ [a]) (-1) = some a ∧ ixN (l ++ [a]).length (-1) = some l.length := by
  have e : ixN (l ++ [a]).length (-1) = some l.length := by
    unfold ixN
    rw [if_neg (by decide), if_pos (by rw [List.length_append, List.length_singleton]; omega)]
    congr 1
    rw [List.length_append, List.length_singleton]
    omega
  refine ⟨?_, e⟩
  unfold atI
  rw [e]
  show (l ++ [a])[l.length]? = some a
  rw [List.getElem?_append_right (Nat.le_refl _), Nat.sub_self]
  rfl
theorem q_asgG {te : TE} {g : TG} {tz : TS} {D : Ends} {σ : L2.St} {H : Hp} (h : te σ H fun v H1 => g v σ H1 (tz D)) : tSeq (tAsg te g) tz D σ H := h
theorem ttup_go {te : TE} {tA : TA} {σ : L2.St} {H : Hp} {Q : VK} (h : te σ H fun v H1 => tA σ H1 fun vs H2 => (v :: vs).length ≤ sizeLine ∧ ∀ p, H2 p = none → Q (.ref p) (upd H2 p (.tup (v :: vs)))) : tTup (tCons te tA) σ H Q := h
theorem ev_eqD2 {ta tb : TE} {σ : L2.St} {H : Hp} {d e : PyData} (h1 : EvD ta σ H d) (h2 : EvD tb σ H e) (s1 : SeqAt.shaped d = true) (s2 : SeqAt.shaped e = true) : Ev (tOp rEqDt ta tb) σ H (.bl (PyData.eqv d e)) := fun H1 e1 Q q =>
  h1 H1 e1 _ fun v H2 e2 hv => h2 H2 (e1.trans e2) _ fun u H3 e3 hu => ⟨d, e, Dt.ex e3 hv, hu, s1, s2, q H3 (e2.trans e3)⟩
def upR (r : PRow) : PRow := ⟨r.t, r.n, r.l, r.pr ++ [failS]⟩
section
variable {P : Program} {w : World} {K : PySem.W.Frag} {mg : Str → Option Value} {base : Heap}
theorem ok_pr {f C fL fE : Addr} {fd dL dE : FuncData} {k kl j n : Nat} (F : Fun K "_law_pairs_right" "_law_pairs_right" sPR f fd) (B : Blt mg) (T : LbC K mg C) (hn2 : 2 ≤ n) (hD : Has P w K mg base k "_law_draw" ["_law_pot_here", "_law_bound"] spDraw) (hC : Has P w K mg base k "_law_choice" ["_law_pot_here", "_law_options"] spChoice)
    (hX : Has P w K mg base k "_law_mixed" ["_law_pot_here", "_law_options"] spMixed) (hO : HasO P w K mg base k "_law_of_pairs" ["_law_pairs"] (spOfP C n)) (ML : Mk K C fL) (GL : FnOk P w K mg base CX0 kl fL dL ["self", "modules"] (spLInit C)) (bL : Binds K dL ["self", "modules"] []) (hkl : kl + 1 ≤ k) (GE : FnOk P w K mg base CX0 j fE dE ["self", "other"] (spLEq C)) (bE : Binds K dE ["self", "other"] []) (TE : EqC K C fE) (hj : j + 1 ≤ k) (hL : HasLenL P w K mg base j C) :
    FnG P w K mg base CX0 (k + 1) f fd ["_law_pot_here", "_law_modules_here"] spPR := by
  obtain ⟨f1, d1, G1, b1, k1, g1⟩ := hD.ex
  obtain ⟨f2, d2, G2, b2, k2, g2⟩ := hC.ex
  obtain ⟨f3, d3, G3, b3, k3, g3⟩ := hX.ex
  obtain ⟨f4, d4, G4, b4, k4, g4⟩ := hO.ex
  obtain ⟨f8, d8, G8, b8, i8, t8⟩ := hL.ex
  refine okG F scPR (fun vs H Q E h => by obtain ⟨_, _, _, rfl, _⟩ := h; rfl) (fun cdv A outer s H vs Q E hq hr h => ?_)
  obtain ⟨p, d, L, rfl, pot, hd, ok, l10, q⟩ := h
  have hrl : Room (kl + 1) _ := hr.mono hkl
  have hrj : Room j _ := hr.mono (by omega)
  have hrj1 : Room (j + 1) _ := hr.mono hj
  have hu := hu_of hr
  refine ⟨_, pss_cons (ps_set (i := 2) scPR.nd rfl (.inr rfl) (pe_slice sl_list (callG (E := E0) G3 hq hr (by rfl) g3 k3 b3 .nil pass0 (pa_cons (pv 0) (pa_cons (pe_callTy (call_listD rfl) (by rfl) B.list bList (pa_cons (pv 1) pa_nil)) pa_nil))) po_none (po_some (pe_op op_add pe_int (callG (E := E0) G1 hq hr (by rfl) g1 k1 b1 .nil pass0 (pa_cons (pv 0) (pa_cons pe_int pa_nil)))))))
    (pss_cons (ps_setLc (i := 3) (own := [("_law_name", 6)]) (g := gName 6) (tt := tYes) (te := tTup (tCons (tVar 6) (tCons (tLc (iList K (tDGet (tVar 1) (tVar 6))) (gName 10) (tTest (tOp (rIn K false) (tOp (rIxT K) (tVar 10) (tC (.int 0))) (tTup (tCons (tC (.str "set")) (tCons (tC (.str "add")) (tCons (tC (.str "fail")) tNil)))))) (tVar 10) [10]) tNil))) rfl scPR.nd rfl rfl (sw_true rfl rfl rfl (by decide +kernel)) (pi_list (pv 2)) (blkOk_by (own := [("_law_name", 6)]) (N := nPR) (sc := defScope sPR) (by decide +kernel))
        (fun _ _ _ _ _ => pg_name (i := 6) scPR.nd rfl (Or.inl rfl)) (fun _ _ _ _ _ => pts_nil)
        (fun _ _ _ _ _ => by exact pe_tup (pa_cons (pv 6) (pa_cons (pe_lc (own := [("_law_step", 10)]) (g := gName 10) (tt := tTest (tOp (rIn K false) (tOp (rIxT K) (tVar 10) (tC (.int 0))) (tTup (tCons (tC (.str "set")) (tCons (tC (.str "add")) (tCons (tC (.str "fail")) tNil)))))) (te := tVar 10) rfl scPR.nd (pi_list (pe_dget hu (pv 1) (pv 6) (fun _ _ => rfl))) (blkOk_by (own := [("_law_step", 10)]) (N := nPR) (sc := scP2) (by decide +kernel))
          (fun _ _ _ _ _ => pg_name (i := 10) scPR.nd rfl (Or.inl rfl)) (fun _ _ _ _ _ => by exact pts_one (pt_cmpR op_in_seq (pe_ix ix_tup (pv 10) pe_int (fun _ _ => rfl)) (pe_tup (pa_cons pe_str (pa_cons pe_str (pa_cons pe_str pa_nil)))) (by rfl))) (fun _ _ _ _ _ => pv 10)) pa_nil))))
    (pss_cons (ps_par (i := 4) (j := 5) (by rfl) scPR.nd rfl rfl (by decide) rfl rfl (pa_cons (pe_make (E := E0) ML GL hrl (by rfl) T.at_ bL .nil pass0 (pa_cons (pe_callTy (call_dictP (by rfl)) (by rfl) B.dict bDict (pa_cons (pv 3) pa_nil)) pa_nil)) (pa_cons (pe_call (E := E0) G4 hr (by rfl) g4 k4 b4 .nil pass0 (pa_cons (pv 3) pa_nil)) pa_nil)) (by rfl))
    (pss_cons (ps_if (PW.pt (pw_or (pt_not (pt_cmpR (op_ownEq (E := E0) TE GE bE pass0 hrj) (pv 5) (pv 4) (nomark _))) (pw_or1 (pt_cmpR op_ne (pe_callB (call_lenO i8 t8 G8 b8 hrj1) (by rfl) B.len bLen (pa_cons (pv 5) pa_nil)) (pe_callB call_len_seq (by rfl) B.len bLen (pa_cons (pv 2) pa_nil)) (nomark _))))) (pss_one (ps_ret pe_bl)) pss_nil)
    (pss_cons (ps_for PassesOwn.never rfl (pi_list (pv 3)) (pg_tup rfl (pgs_cons (pg_name (i := 6) scPR.nd rfl (.inl rfl)) (pgs_cons (pg_name (i := 7) scPR.nd rfl (.inl rfl)) pgs_nil)))
      (pss_one (ps_expr (pe_bm PySem.F.plainAttrs_list PySem.F.slot_list_append PySem.F.type_list_append mt_append (pv 7) (pa_cons (pe_tup (pa_cons pe_str pa_nil)) pa_nil)))))
    (pss_cons (ps_if (pt_not (pt_cmpR (op_ownEq (E := E0) TE GE bE pass0 hrj) (pv 5) (pv 4) (nomark _))) (pss_one (ps_ret pe_bl)) pss_nil)
    (pss_cut (ps_if (pt_cmpR op_lt (pe_callB call_len_seq (by rfl) B.len bLen (pa_cons (pv 3) pa_nil)) pe_int (nomark _))
      (pss_cons (ps_set (i := 8) scPR.nd rfl (.inl rfl) (callG (E := E0) G3 hq hr (by rfl) g3 k3 b3 .nil pass0 (pa_cons (pv 0) (pa_cons (pe_op op_cat (pv 3) (pe_slice sl_list (pv 3) po_none (po_some pe_int))) pa_nil))))
      (pss_one (ps_if (pt_cmpR (op_neDt hr.units) (pe_call (E := E0) G4 hr (by rfl) g4 k4 b4 .nil pass0 (pa_cons (pv 8) pa_nil)) (pe_lst (pa_cons (pe_ix ix_tup (pe_ix ix_list (pv 3) pe_int (fun _ _ => rfl)) pe_int (fun _ _ => rfl)) (pa_cons (pe_un un_neg pe_int) pa_nil))) (nomark _)) (pss_one (ps_ret pe_bl)) pss_nil))) pss_nil)
    (pss_cons (ps_set (i := 9) scPR.nd rfl (.inl rfl) (pe_ix ix_list (pe_lc (own := [("_law_name", 6)]) (g := gName 6) (tt := tTest (tOp (rIn K true) (tVar 6) (tVar 2))) (te := tVar 6) rfl scPR.nd (pi_list (pe_lst (pa_cons pe_str (pa_cons pe_str (pa_cons pe_str (pa_cons pe_str pa_nil)))))) (blkOk_by (own := [("_law_name", 6)]) (N := nPR) (sc := defScope sPR) (by decide +kernel))
        (fun _ _ _ _ _ => pg_name (i := 6) scPR.nd rfl (Or.inl rfl)) (fun _ _ _ _ _ => by exact pts_one (pt_cmpR op_notIn_seq (pv 6) (pv 2) (by rfl))) (fun _ _ _ _ _ => pv 6)) pe_int (fun _ _ => rfl)))
    (pss_cons (ps_set (i := 10) scPR.nd rfl (.inl rfl) (callG (E := E0) G2 hq hr (by rfl) g2 k2 b2 .nil pass0 (pa_cons (pv 0) (pa_cons (pe_lst (pa_cons (pe_tup (pa_cons pe_str (pa_cons (pv 9) pa_nil))) (pa_cons (pe_tup (pa_cons pe_str (pa_cons (pv 9) (pa_cons pe_str pa_nil)))) (pa_cons (pe_tup (pa_cons pe_str (pa_cons pe_str (pa_cons (pv 9) (pa_cons pe_str pa_nil))))) pa_nil)))) pa_nil))))
    (pss_cons (ps_asg (pe_tup (pa_cons (pe_ix ix_tup (pe_ix ix_list (pv 3) (pe_un un_neg pe_int) (fun _ _ => rfl)) pe_int (fun _ _ => rfl)) (pa_cons (pe_lst (pa_cons (pe_tup (pa_cons pe_str pa_nil)) (pa_cons (pv 10) pa_nil))) pa_nil))) (pg_sub (pv 3) (pe_un un_neg pe_int) set_list))
    (pss_one (ps_ret (pe_cmpR (op_eqDt hr.units) (pe_call (E := E0) G4 hr (by rfl) g4 k4 b4 .nil pass0 (pa_cons (pv 3) pa_nil)) (pe_lst (pa_cons (pe_ix ix_tup (pe_ix ix_list (pv 3) (pe_un un_neg pe_int) (fun _ _ => rfl)) pe_int (fun _ _ => rfl)) (pa_cons pe_int pa_nil))) (nomark _))))))))))))), ?_⟩
  obtain ⟨kvs, hk, hkv⟩ := dt_dct hd
  have hLk : LKv H kvs L := hkv
  have v := ok.v
  have l40 := v.l40
  have l1 := v.l1
  have keys : kvs.map (fun kv => kV kv.1) = (L.map (·.1)).map V.str := by
    have z := congrArg (List.map kV) (lkv_keys hLk)
    rw [List.map_map, List.map_map] at z
    rw [List.map_map]
    exact z
  have dp : d ≠ p := by
    obtain ⟨i, jj, hp, _⟩ := pot
    exact fun e => by rw [e, hp] at hk; cases hk
  -- the names
  refine q_asgAny ?_
  refine ⟨.ref p, rfl, .ref d, rfl, d, kvs, rfl, .inl hk, fun LD zLD => ?_⟩
  rw [keys]
  have LDp : LD ≠ p := (Drew.refl pot).neq zLD
  have eL : Ex H (upd H LD (.lst ((L.map (·.1)).map V.str))) := Ex.new zLD
  have hLD : (upd H LD (.lst ((L.map (·.1)).map V.str))) LD = some (.lst ((L.map (·.1)).map V.str)) := upd_same
  generalize upd H LD (.lst ((L.map (·.1)).map V.str)) = H1 at eL hLD ⊢
  have r1 := Drew.of pot eL
  refine ⟨p, LD, (L.map (·.1)).map V.str, (L.map (·.1)).map PyData.str, rfl, r1.pot, LDp, hLD, dts_strs _, by rw [List.length_map, List.length_map]; omega, fun es he => strs_sha (ns := L.map (·.1)) (fun x hx => by obtain ⟨r, hr, rfl⟩ := List.mem_map.mp hx; exact v.nm r hr) he, fun ol bs H3 zol r3 hol pm => ?_⟩
  obtain ⟨os, eos, pos⟩ : ∃ os : List Str, bs.map (·.1) = os.map V.str ∧ os.Perm (L.map (·.1)) := by
    refine perm_strs ?_
    have z := pm.map (·.1)
    have e : (((L.map (·.1)).map V.str).zip ((L.map (·.1)).map PyData.str)).map (·.1) = (L.map (·.1)).map V.str := List.map_fst_zip (by simp)
    rw [e] at z
    exact z
  rw [eos] at hol
  have olp : ol ≠ p := (Drew.refl r1.pot).neq zol
  have r13 := r1.trans r3
  refine ⟨.ref p, rfl, p, 3, rfl, by decide, by decide, r13.pot, fun c H4 c0 c1 r4 => ?_⟩
  have hol4 := r4.at olp hol
  have r14 := r13.trans r4
  have ek : (1 : Int) + c = (((1 + c).toNat : Nat) : Int) := by omega
  refine ⟨1, c, rfl, rfl, (((1 + c).toNat : Nat) : Int), by first | exact ek | exact congrArg _ ek | rfl, ol, _, rfl, sq_of hol4, fun NL zNL => ?_⟩
  rw [cutV_to, ← List.map_take]
  have lo : os.length = L.length := by rw [pos.length_eq, List.length_map]
  have ksl : 1 ≤ (os.take (1 + c).toNat).length ∧ (os.take (1 + c).toNat).length ≤ 3 := by rw [List.length_take]; omega
  have ksn : (os.take (1 + c).toNat).Nodup := ((pos.nodup_iff.mpr v.nd)).sublist (List.take_sublist _ _)
  have ksm : ∀ m ∈ os.take (1 + c).toNat, m ∈ L.map (·.1) := fun m hm => pos.mem_iff.mp (List.mem_of_mem_take hm)
  generalize os.take (1 + c).toNat = ks at ksl ksn ksm ⊢
  have NLp : NL ≠ p := (Drew.refl r14.pot).neq zNL
  have eN : Ex H4 (upd H4 NL (.lst (ks.map V.str))) := Ex.new zNL
  have hNL : (upd H4 NL (.lst (ks.map V.str))) NL = some (.lst (ks.map V.str)) := upd_same
  generalize upd H4 NL (.lst (ks.map V.str)) = H5 at eN hNL ⊢
  have r5 := r14.trans (Drew.of r14.pot eN)
  have hd5 := lib_drew r5 pot (libOk_st v) hd
  obtain ⟨kvs5, hk5, hkv5⟩ := dt_dct hd5
  have hL5 : LKv H5 kvs5 L := hkv5
  show tSeq _ _ _ [some (.ref p), some (.ref d), some (.ref NL), none, none, none, none, none, none, none, none] H5
  -- the pairs
  refine q_asgAny ?_
  refine pairs_lc (K := K) (tl := tVar 2) (tn := tLc (iList K (tDGet (tVar 1) (tVar 6))) (gName 10) (tTest (tOp (rIn K false) (tOp (rIxT K) (tVar 10) (tC (.int 0))) (tTup (tCons (tC (.str "set")) (tCons (tC (.str "add")) (tCons (tC (.str "fail")) tNil)))))) (tVar 10) [10]) (σ := [some (.ref p), some (.ref d), some (.ref NL), none, none, none, none, none, none, none, none]) (H := H5) (j := 6) (a := NL) (ns := ks)
    (fun m => plP (progL L m)) (fun m => flV (rowsOf H5 kvs5 m) (progL L m)) (ev_var rfl) hNL (by omega) (fun _ => rfl) (by show 6 < 11; decide) rfl (fun m hm H' e' => ?_) (fun m hm => ?_) fun PL rs H6 zPL e6 hPL hn hrs hnd => ?_
  · obtain ⟨a, h1, h2, h3⟩ := rows_of hL5 (ksm m hm)
    have vp := v.ok _ (progL_at v.nd (ksm m hm))
    exact el_plain (ev_dgetR (ev_var rfl) (ev_var rfl) (.inl (e' _ _ hk5)) h1) (e' _ _ h2) (DtAll.ex e' h3) vp.st vp.len (fun _ => rfl) (fun _ => rfl)
  · obtain ⟨a, h1, h2, h3⟩ := rows_of hL5 (ksm m hm)
    exact flV_dt h3
  have lrs : rs.length = ks.length := by rw [← hn, List.length_map]
  have nmr : ∀ r ∈ rs, r.n ∈ L.map (·.1) := fun r hr => ksm _ (by rw [← hn]; exact List.mem_map_of_mem hr)
  have nms : ∀ r ∈ rs, isNameS r.n = true := fun r hr => by
    obtain ⟨y, hy, e⟩ := List.mem_map.mp (nmr r hr)
    rw [← e]
    exact v.nm y hy
  have plr : ∀ r ∈ rs, PlainPr r.pr ∧ r.pr.length ≤ 10 := fun r hr => by
    rw [(hrs r hr).1]
    have m := progL_at v.nd (nmr r hr)
    exact ⟨plainP_of (v.ok _ m), Nat.le_trans (List.length_filter_le _ _) (l10 _ m)⟩
  have okR := libR_ok (by rw [hn]; exact ksn) nms (by omega) (by omega) fun r hr => (plr r hr).1
  have svR := libOk_st okR.v
  have rw6 : ∀ r ∈ rs, PRowAt H6 r := fun r hr => (hrs r hr).2.1
  have r6 := r5.trans (Drew.of r5.pot e6)
  have PLp : PL ≠ p := (Drew.refl r5.pot).neq zPL
  have ePL : (rs.map fun r => V.ref r.t) = (rs.map (·.t)).map V.ref := by rw [List.map_map]; rfl
  show tSeq _ _ _ [some (.ref p), some (.ref d), some (.ref NL), some (.ref PL), none, none, none, none, none, none, none] H6
  refine q_par2 ?_
  refine make_ofP ?_
  refine ⟨.ref PL, rfl, PL, rs.map (·.t), rs.map fun r => ((.inr r.n : Key), V.ref r.l), rfl, sq_of (by rw [hPL, ePL]), rows_paired rw6, fun Dd zDd => ?_⟩
  have em : mergeK [] (rs.map fun r => ((.inr r.n : Key), V.ref r.l)) = rs.map fun r => ((.inr r.n : Key), V.ref r.l) := by
    refine (mergeK_new ?_ fun k _ h => absurd h (by simp)).trans (List.nil_append _)
    have e1 : (rs.map fun r => ((.inr r.n : Key), V.ref r.l)).map (·.1) = ks.map fun n => (Sum.inr n : Key) := by
      rw [← hn, List.map_map, List.map_map]
      rfl
    rw [e1]
    exact List.Pairwise.map _ (fun a b h e => h (Sum.inr.inj e)) ksn
  rw [em]
  have e7 : Ex H6 (upd H6 Dd (.dK (rs.map fun r => ((.inr r.n : Key), V.ref r.l)))) := Ex.new zDd
  have hDd : Dt (upd H6 Dd (.dK (rs.map fun r => ((.inr r.n : Key), V.ref r.l)))) (.ref Dd) (libD (libR rs)) := .dct upd_same (rows_lkv fun r hr => (rw6 r hr).ex e7)
  generalize upd H6 Dd (.dK (rs.map fun r => ((.inr r.n : Key), V.ref r.l))) = H7 at e7 hDd ⊢
  refine make_new (C := C) (ev_c) hDd okR fun y H8 zy e8 nwy => ?_
  have e68 := e7.trans e8
  refine ⟨.ref PL, rfl, PL, rs.map (·.t), rs.map rowP, rfl, by rw [e68 _ _ hPL, ePL], rows_prs fun r hr => (rw6 r hr).ex e68, ⟨fun e he => ?_, fun e he => ?_⟩, by rw [List.length_map]; omega, hn2, fun _ => ⟨libR rs, rows_libS rs, okR, fun x H9 e9 zx nwx => ⟨.ref y, .ref x, rfl, ?_⟩⟩, fun dd i hdd => ?_⟩
  · obtain ⟨r0, hr0, rfl⟩ := List.mem_map.mp he
    obtain ⟨r, hr, rfl⟩ := List.mem_map.mp hr0
    exact ⟨nm_sm (nms r hr), rfl, by show 0 < n; omega⟩
  · obtain ⟨r0, hr0, rfl⟩ := List.mem_map.mp he
    obtain ⟨r, hr, rfl⟩ := List.mem_map.mp hr0
    exact prog_sm (plr r hr).1.v
  rotate_left
  · exfalso
    have z : ofDue (rs.map rowP) = none := by
      refine due_goodL (fun r hr => ?_) ?_ (by rw [List.length_map]; omega) (by rw [List.length_map]; omega) fun r hr => ?_
      · obtain ⟨y, hy, rfl⟩ := List.mem_map.mp hr
        exact nms y hy
      · rw [List.map_map]
        show (rs.map (·.n)).Nodup
        rw [hn]
        exact ksn
      · obtain ⟨y, hy, rfl⟩ := List.mem_map.mp hr
        exact ⟨y.pr, rfl, (plr y hy).1⟩
    rw [z] at hdd
    cases hdd
  dsimp only
  show tSeq _ _ _ [some (.ref p), some (.ref d), some (.ref NL), some (.ref PL), some (.ref y), some (.ref x), none, none, none, none, none] H9
  have e69 := e68.trans e9
  have r9 := r6.trans (Drew.of r6.pot e69)
  have lby := (nwy.ex e9).at_
  have lbx := nwx.at_
  obtain ⟨dx, dd, kvx, o1, o2, o3, o4, o5⟩ := nwx.ob
  have hNL9 := e69 _ _ (e6 _ _ hNL)
  have hPL9 := e69 _ _ hPL
  have sl := srt_len (libR rs)
  have ll : (libR rs).length = rs.length := List.length_map ..
  have ndR : ((srtL (libR rs)).map (·.1)).Nodup := (srt_v okR.v).nd
  have svS := libOk_st (srt_v okR.v)
  have eq1 : ∀ {H' : Hp} {y6 y7 y8 y9 y10 : Option V}, LbAt C H' x (srtL (libR rs)) → LbAt C H' y (srtL (libR rs)) → Ev (tOp (rOwn C false (spLEq C) E0) (tVar 5) (tVar 4)) [some (.ref p), some (.ref d), some (.ref NL), some (.ref PL), some (.ref y), some (.ref x), y6, y7, y8, y9, y10] H' (.bl true) := fun {H' y6 y7 y8 y9 y10} h1 h2 => by
    have z := ev_eqLb (σ := [some (.ref p), some (.ref d), some (.ref NL), some (.ref PL), some (.ref y), some (.ref x), y6, y7, y8, y9, y10]) (evLb_var (i := 5) rfl h1) (evLb_var (i := 4) rfl h2) svS svS ndR
    rw [eqL_self ndR svS] at z
    exact z
  have len1 : Ev (tCB (rLenO C (spLLen C)) (tCons (tVar 5) tNil)) [some (.ref p), some (.ref d), some (.ref NL), some (.ref PL), some (.ref y), some (.ref x), none, none, none, none, none] H9 (.int ((srtL (libR rs)).length : Int)) := fun H1 e1 Q q => ⟨.ref x, rfl, x, dx, _, rfl, e1 _ _ o1, x, srtL (libR rs), rfl, lbx.ex e1, fun H2 e2 => ⟨_, rfl, by omega, q H2 e2⟩⟩
  refine q_when (b := false) (et_is (et_or (a := false) (et_is (et_not (et_test (eq1 lbx lby))) rfl) fun _ => et_is (et_test (ev_op len1 (ev_cb (ea_cons (ev_var rfl) ea_nil) (rc_lenL (sq_of hNL9))) (rv_ne rfl))) (by rw [sl, ll, lrs, List.length_map, decide_eq_true rfl]; rfl)) rfl) (fun z => nomatch z) (fun _ H10 e10 => ?_)
  have rw10 : ∀ r ∈ rs, PRowAt H10 r := fun r hr => (rw6 r hr).ex (e69.trans e10)
  have hPL10 := e10 _ _ hPL9
  have rl5 : ∀ r ∈ rs, H5 r.l = none := fun r hr => (hrs r hr).2.2.2.1
  have rt10 : ∀ r ∈ rs, ∀ r' ∈ rs, r.t ≠ r'.l := fun r hr r' hr' e => by
    obtain ⟨xs, h1, _⟩ := (rw10 r' hr').hl
    rw [← e, (rw10 r hr).ht] at h1
    cases h1
  have PLl : ∀ r ∈ rs, PL ≠ r.l := fun r hr e => (hrs r hr).2.2.2.2.2 e.symm
  -- the lists of the pairs change
  refine q_forL (K := K) (a := PL) (xs := rs.map fun r => V.ref r.t) (ev_var rfl) (sq_of hPL10) (fun i σ' H' => (∃ y6 y7, σ' = [some (.ref p), some (.ref d), some (.ref NL), some (.ref PL), some (.ref y), some (.ref x), y6, y7, none, none, none]) ∧ (∀ c o, (∀ r ∈ rs, c ≠ r.l) → H10 c = some o → H' c = some o) ∧ ∀ (m : Nat) r, rs[m]? = some r → ∃ xs, H' r.l = some (.lst xs) ∧ DtAll H' xs ((if m < i then r.pr ++ [failS] else r.pr).map PyData.tuple))
    (fun H' e' => ⟨⟨_, _, rfl⟩, fun c o _ h => e' _ _ h, fun m r hr => ?_⟩) (fun i σ' H' _ hP => sq_of (hP.2.1 _ _ PLl hPL10)) (fun i u σ' H' hi hP => ?_) (fun σ' H11 hP => ?_)
  · obtain ⟨xs, h1, h2⟩ := (rw10 r (List.mem_of_getElem? hr)).hl
    exact ⟨xs, e' _ _ h1, by rw [if_neg (Nat.not_lt_zero m)]; exact DtAll.ex e' h2⟩
  · obtain ⟨⟨y6, y7, rfl⟩, hfr, hls⟩ := hP
    rw [List.getElem?_map] at hi
    obtain ⟨r, hr, rfl⟩ : ∃ r, rs[i]? = some r ∧ V.ref r.t = u := by
      cases hh : rs[i]? with
      | none => rw [hh] at hi; cases hi
      | some z => rw [hh] at hi; exact ⟨z, rfl, Option.some.inj hi⟩
    have hm := List.mem_of_getElem? hr
    refine pair_go (hfr _ _ (fun r' hr' => rt10 r hm r' hr') (rw10 r hm).ht) ?_
    obtain ⟨xs, hl, hxs⟩ := hls i r hr
    rw [if_neg (Nat.lt_irrefl i)] at hxs
    have lx := hxs.length
    rw [List.length_map] at lx
    have lp := (plr r hm).2
    show tDrop _ _ [some (.ref p), some (.ref d), some (.ref NL), some (.ref PL), some (.ref y), some (.ref x), some (.str r.n), some (.ref r.l), none, none, none] H'
    refine s_appU (K := K) hl (ev_var rfl) (eu_tup (ea_cons ev_c ea_nil) (by show 1 ≤ 100000; decide)) (by omega) fun T1 H1' zT1 e1' hT1 => ?_
    have tp : Tps H' (upd H1' r.l (.lst (xs ++ [.ref T1]))) := fun a zs h => by
      rw [upd_ne (fun e => by rw [e, hl] at h; cases h)]
      exact e1' _ _ h
    refine ⟨⟨_, _, rfl⟩, fun c o hc h => ?_, fun m r' hr' => ?_⟩
    · rw [upd_ne (hc r hm)]
      exact e1' _ _ (hfr c o hc h)
    · by_cases hmi : m = i
      · subst hmi
        rw [hr] at hr'
        cases hr'
        refine ⟨_, upd_same, ?_⟩
        rw [if_pos (Nat.lt_succ_self m), List.map_append]
        refine DtAll.append (dts_step tp hxs fun ds hd => ((plr r hm).1.s ds hd).1) (.cons (.tup ?_ (.cons (.str _) .nil)) .nil)
        rw [upd_ne (fun e => by rw [e, e1' _ _ hl] at hT1; cases hT1)]
        exact hT1
      · obtain ⟨xs', hl', hxs'⟩ := hls m r' hr'
        have ne := nd_ne hnd hr' hr hmi
        have hm' := List.mem_of_getElem? hr'
        refine ⟨xs', by rw [upd_ne ne]; exact e1' _ _ hl', ?_⟩
        have ei : (if m < i + 1 then r'.pr ++ [failS] else r'.pr) = if m < i then r'.pr ++ [failS] else r'.pr := by
          by_cases c : m < i
          · rw [if_pos c, if_pos (by omega)]
          · rw [if_neg c, if_neg (by omega)]
        rw [ei]
        refine dts_step tp hxs' fun ds hd => ?_
        split at hd
        · rcases List.mem_append.mp hd with h | h
          · exact ((plr r' hm').1.s ds h).1
          · rw [List.mem_singleton.mp h]; exact st_failS
        · exact ((plr r' hm').1.s ds hd).1
  obtain ⟨⟨y6, y7, rfl⟩, hfr, hls⟩ := hP
  rw [List.length_map] at hls
  have tp11 : Tps H10 H11 := fun a zs h => hfr _ _ (fun r hr e => by
    obtain ⟨xs, h1, _⟩ := (rw10 r hr).hl
    rw [← e, h] at h1
    cases h1) h
  have new7 : ∀ {c : Addr} {H0 : Hp}, Ex H6 H0 → H0 c = none → ∀ r ∈ rs, c ≠ r.l := fun {c H0} ex z r hr e => by
    obtain ⟨xs, h1, _⟩ := (rw6 r hr).hl
    rw [e, ex _ _ h1] at z
    cases z
  have lby11 := (nwy.ex (e9.trans e10)).keep svS zy (fun c o z h => hfr _ _ (new7 e7 z) h) tp11
  have lbx11 := (nwx.ex e10).keep svS zx (fun c o z h => hfr _ _ (new7 e68 z) h) tp11
  have rw11 : ∀ r ∈ rs.map upR, PRowAt H11 r := fun r hr => by
    obtain ⟨r0, hr0, rfl⟩ := List.mem_map.mp hr
    obtain ⟨m, hm⟩ := List.mem_iff_getElem?.mp hr0
    obtain ⟨xs, h1, h2⟩ := hls m r0 hm
    have hml : m < rs.length := (List.getElem?_eq_some_iff.mp hm).1
    rw [if_pos hml] at h2
    exact ⟨hfr _ _ (fun r' hr' => rt10 r0 hr0 r' hr') (rw10 r0 hr0).ht, xs, h1, h2⟩
  have r10 := r9.trans (Drew.of r9.pot e10)
  have r11 : Drew p H H11 := by
    obtain ⟨i, jj, hp, h0, h1, h2⟩ := r10.pot
    refine ⟨fun c o h => ?_, i, jj, hfr _ _ (fun r hr e => ?_) hp, h0, h1, h2⟩
    · have cp : c ≠ p := fun e => by rw [e] at h; unfold wo at h; rw [if_pos rfl] at h; cases h
      rw [wo_ne cp] at h ⊢
      refine hfr _ _ (fun r hr e => ?_) (r10.at cp h)
      have z := r5.at cp h
      rw [e, rl5 r hr] at z
      cases z
    · obtain ⟨a, b, hp5, _⟩ := r5.pot
      rw [e, rl5 r hr] at hp5
      cases hp5
  have hPL11 := hfr _ _ PLl hPL10
  have hNL11 := hfr NL _ (fun r hr e => by have z := hNL; rw [e, rl5 r hr] at z; cases z) (e10 _ _ hNL9)
  show tSeq _ _ _ [some (.ref p), some (.ref d), some (.ref NL), some (.ref PL), some (.ref y), some (.ref x), y6, y7, none, none, none] H11
  refine q_when (b := false) (et_is (et_not (et_test (eq1 lbx11 lby11))) rfl) (fun z => nomatch z) (fun _ H12 e12 => ?_)
  have r12 := r11.trans (Drew.of r11.pot e12)
  have rw12 : ∀ r ∈ rs.map upR, PRowAt H12 r := fun r hr => (rw11 r hr).ex e12
  have nm2 : ∀ r ∈ rs.map upR, isNameS r.n = true := fun r hr => by
    obtain ⟨r0, hr0, rfl⟩ := List.mem_map.mp hr
    exact nms r0 hr0
  have pl2 : ∀ r ∈ rs.map upR, PlainPr r.pr := fun r hr => by
    obtain ⟨r0, hr0, rfl⟩ := List.mem_map.mp hr
    have z := plr r0 hr0
    exact plain_fail z.1 (by omega)
  have ks2 : (rs.map upR).map (·.n) = ks := by
    rw [List.map_map]
    exact hn
  have hPL12 : H12 PL = some (.lst ((rs.map upR).map fun r => V.ref r.t)) := by
    have z := e12 _ _ hPL11
    rw [List.map_map]
    exact z
  have l2 : (rs.map upR).length = ks.length := by rw [List.length_map]; exact lrs
  have hNL12 := e12 _ _ hNL11
  have PLl2 : ∀ r ∈ rs.map upR, PL ≠ r.l := fun r hr => by
    obtain ⟨r0, hr0, rfl⟩ := List.mem_map.mp hr
    exact PLl r0 hr0
  generalize rs.map upR = rs2 at rw12 nm2 pl2 ks2 hPL12 l2 PLl2
  have st2 : ∀ r ∈ rs2, ∀ ds ∈ r.pr, isStep (.tuple ds) = true := fun r hr ds hd => ((pl2 r hr).s ds hd).1
  have neg1 : ∀ {σ : L2.St} {H1 : Hp}, Ev (tUn (rU fun i => .int (-i)) (tC (.int 1))) σ H1 (.int (-1)) := fun {σ H1} => ev_un ev_c fun H2 _ Q q => ⟨1, rfl, q H2 (Ex.refl H2)⟩
  show tCut _ _ _ [some (.ref p), some (.ref d), some (.ref NL), some (.ref PL), some (.ref y), some (.ref x), y6, y7, none, none, none] H12
  refine q_cut (M := fun σ' H' => (∃ y8, σ' = [some (.ref p), some (.ref d), some (.ref NL), some (.ref PL), some (.ref y), some (.ref x), y6, y7, y8, none, none]) ∧ Drew p H12 H') ?_ ?_
  · refine s_when (b := decide (((rs2.map fun r => V.ref r.t).length : Int) < 3)) (et_test (ev_op (ev_cb (ea_cons (ev_var rfl) ea_nil) (rc_lenL (sq_of hPL12))) ev_c rv_I0)) (fun hb H13 e13 => ?_) (fun hb H13 e13 => ⟨⟨_, rfl⟩, Drew.of r12.pot e13⟩)
    have lt2 : rs2.length ≤ 2 := by
      have z := of_decide_eq_true hb
      rw [List.length_map] at z
      omega
    obtain ⟨r0, rest, rfl⟩ : ∃ r0 rest, rs2 = r0 :: rest := by
      cases rs2 with
      | nil => simp at l2; omega
      | cons r0 rest => exact ⟨r0, rest, rfl⟩
    have r13 := Drew.of r12.pot e13
    have hPL13 := e13 _ _ hPL12
    show tSeq _ _ _ [some (.ref p), some (.ref d), some (.ref NL), some (.ref PL), some (.ref y), some (.ref x), y6, y7, none, none, none] H13
    refine q_asgAny ?_
    refine ⟨.ref p, rfl, .ref PL, rfl, .ref PL, rfl, (1 : Int), rfl, PL, _, rfl, sq_of hPL13, fun S1 zS1 => ?_⟩
    have ec : cutV ((r0 :: rest).map fun r => V.ref r.t) none (some (1 : Int)) = [V.ref r0.t] := cutV_to 1
    rw [ec]
    have eS : Ex H13 (upd H13 S1 (.lst [V.ref r0.t])) := Ex.new zS1
    refine ⟨PL, S1, _, [V.ref r0.t], rfl, rfl, eS _ _ hPL13, upd_same, by rw [List.length_map, sizeLine_eq]; show rest.length + 1 + 1 ≤ _; simp at lt2; omega, fun Z zZ => ?_⟩
    have exZ : ((r0 :: rest).map fun r => V.ref r.t) ++ [V.ref r0.t] = ((r0 :: rest) ++ [r0]).map fun r => V.ref r.t := by rw [List.map_append]; rfl
    rw [exZ]
    generalize upd H13 S1 (.lst [V.ref r0.t]) = H14 at eS zZ ⊢
    have eZ : Ex H14 (upd H14 Z (.lst (((r0 :: rest) ++ [r0]).map fun r => V.ref r.t))) := Ex.new zZ
    have hZ : (upd H14 Z (.lst (((r0 :: rest) ++ [r0]).map fun r => V.ref r.t))) Z = some (.lst (((r0 :: rest) ++ [r0]).map fun r => V.ref r.t)) := upd_same
    have e1Z := (e13.trans eS).trans eZ
    have rZ := Drew.of r12.pot e1Z
    have Zp : Z ≠ p := (Drew.of r12.pot (e13.trans eS)).neq zZ
    generalize upd H14 Z (.lst (((r0 :: rest) ++ [r0]).map fun r => V.ref r.t)) = H15 at eZ hZ e1Z rZ ⊢
    have sub : ∀ r ∈ (r0 :: rest) ++ [r0], r ∈ r0 :: rest := fun r hr => by
      rcases List.mem_append.mp hr with h | h
      · exact h
      · rw [List.mem_singleton.mp h]; exact List.mem_cons_self
    have rw15 : ∀ r ∈ (r0 :: rest) ++ [r0], PRowAt H15 r := fun r hr => (rw12 r (sub r hr)).ex e1Z
    refine ⟨p, Z, _, ((r0 :: rest) ++ [r0]).map rowsD, rfl, rZ.pot, Zp, hZ, rows_wo rZ.pot rw15 fun r hr => st2 r (sub r hr), by rw [List.length_map, List.length_append]; show rest.length + 1 + 1 ≤ _; simp at lt2; omega, fun es he => rows_sha (rs := (r0 :: rest) ++ [r0]) (fun r hr => nm2 r (sub r hr)) (fun r hr => st2 r (sub r hr)) he, fun l4 bs H16 zl4 r16 hl4 pm => ?_⟩
    rw [zip_map] at pm
    obtain ⟨rs4, pm4, rfl⟩ := perm_inv pm rfl
    have e4 : (rs4.map fun x => (V.ref x.t, rowsD x)).map (·.1) = (rs4.map (·.t)).map V.ref := by rw [List.map_map, List.map_map]; rfl
    rw [e4] at hl4
    have l4p : l4 ≠ p := rZ.neq zl4
    have rw16 : ∀ r ∈ rs4, PRowAt H16 r := fun r hr => by
      have hm := pm4.mem_iff.mp hr
      exact (rw15 r hm).drew r16 rZ.pot (st2 r (sub r hm))
    have sub4 : ∀ r ∈ rs4, r ∈ r0 :: rest := fun r hr => sub r (pm4.mem_iff.mp hr)
    have len4 : rs4.length ≤ 3 := by
      rw [pm4.length_eq, List.length_append]
      show rest.length + 1 + 1 ≤ 3
      simp at lt2
      omega
    have hPL16 := r16.at PLp (((eS.trans eZ)) _ _ hPL13)
    have du : ofDue (rs4.map rowP) = some (.str r0.n, -1) := by
      unfold ofDue
      have en : (rs4.map rowP).map (·.1) = rs4.map (·.n) := by rw [List.map_map]; rfl
      have pn : (rs4.map (·.n)).Perm (ks ++ [r0.n]) := by
        have z := pm4.map (·.n)
        rw [List.map_append, ks2] at z
        exact z
      rw [en, dup_one ksn (by rw [← ks2]; exact List.mem_cons_self) pn]
    show tIfS _ _ _ _ [some (.ref p), some (.ref d), some (.ref NL), some (.ref PL), some (.ref y), some (.ref x), y6, y7, some (.ref l4), none, none] H16
    have t0 : H16 r0.t = some (.tup [.str r0.n, .ref r0.l]) := ((rw12 r0 List.mem_cons_self).ex e1Z |>.drew r16 rZ.pot (st2 r0 List.mem_cons_self)).ht
    have nm0 := nm2 r0 List.mem_cons_self
    refine s_when (b := false) (et_is (et_neD (d := .list [.str r0.n, .int (-1)]) (e := .list [.str r0.n, .int (-1)]) (fun H1 e1 Q' q' => ⟨.ref l4, rfl, l4, rs4.map (·.t), rs4.map rowP, rfl, e1 _ _ hl4, rows_prs fun r hr => (rw16 r hr).ex e1, ⟨fun e he => ?_, fun e he => ?_⟩, by rw [List.length_map]; omega, hn2, fun hnn => ?_, fun dd i hdd lo H2 zlo e2 dlo => ?_⟩) (evd_lst (evda_cons (evd_of (ev_op (r := rIxT K) (ev_op (r := rIxL K) (ev_var rfl) ev_c (rv_ixL (sq_of hPL16) (atI_nat (j := 0) rfl))) ev_c (rv_ixT (st_of t0) (atI_nat (j := 0) rfl))) (.str _)) (evda_cons (evd_of neg1 (.int _)) evda_nil)) (by show 2 ≤ 1000; decide)) (due2_sha nm0 _) (due2_sha nm0 _)) (by rw [due2_eqv]; rfl)) (fun z => nomatch z) (fun _ H17 e17 => ⟨⟨_, rfl⟩, (rZ.trans r16).trans (Drew.of (rZ.trans r16).pot e17)⟩)
    · obtain ⟨y0, hy0, rfl⟩ := List.mem_map.mp he
      obtain ⟨r, hr, rfl⟩ := List.mem_map.mp hy0
      exact ⟨nm_sm (nm2 r (sub4 r hr)), rfl, by show 0 < n; omega⟩
    · obtain ⟨y0, hy0, rfl⟩ := List.mem_map.mp he
      obtain ⟨r, hr, rfl⟩ := List.mem_map.mp hy0
      exact prog_sm (pl2 r (sub4 r hr)).v
    · rw [du] at hnn
      cases hnn
    · rw [du] at hdd
      cases hdd
      exact q' _ H2 e2 dlo
  rintro σ' H18 ⟨⟨y8, rfl⟩, r18⟩
  have r018 := r12.trans r18
  have hNL18 := r18.at NLp hNL12
  have hPL18 := r18.at PLp hPL12
  have rw18 : ∀ r ∈ rs2, PRowAt H18 r := fun r hr => (rw12 r hr).drew r18 r12.pot (st2 r hr)
  obtain ⟨ini, la, rfl⟩ : ∃ ini la, rs2 = ini ++ [la] := by
    have ne : rs2 ≠ [] := fun e => by rw [e] at l2; simp at l2; omega
    exact ⟨rs2.dropLast, rs2.getLast ne, (List.dropLast_concat_getLast ne).symm⟩
  obtain ⟨fx, hfx, fm, fnk⟩ := free_some (ks := ks) ksl.2
  have comp : EvL (tLc (iList K (tLst (tCons (tC (.str "zzzzzzzz")) (tCons (tC (.str "q")) (tCons (tC (.str "ab")) (tCons (tC (.str "k")) tNil)))))) (gName 6) (tTest (tOp (rIn K true) (tVar 6) (tVar 2))) (tVar 6) [6]) [some (.ref p), some (.ref d), some (.ref NL), some (.ref PL), some (.ref y), some (.ref x), y6, y7, y8, none, none] H18 ((freeN.filter fun z => !decide (z ∈ ks)).map V.str) := by
    have z := el_lcNL (K := K) (tl := tLst (tCons (tC (.str "zzzzzzzz")) (tCons (tC (.str "q")) (tCons (tC (.str "ab")) (tCons (tC (.str "k")) tNil))))) (te := tVar 6) (t := tTest (tOp (rIn K true) (tVar 6) (tVar 2))) (j := 6) (vs := [6]) (xs := freeN.map V.str) (σ := [some (.ref p), some (.ref d), some (.ref NL), some (.ref PL), some (.ref y), some (.ref x), y6, y7, y8, none, none]) (H := H18)
      (fun i => !decide (freeN.getD i "" ∈ ks)) (fun i => .str (freeN.getD i "")) (el_lst (ea_cons ev_c (ea_cons ev_c (ea_cons ev_c (ea_cons ev_c ea_nil)))) (by show 4 ≤ 100000; decide)) (by decide) (fun _ => rfl) (fun i u H1 e1 hi => ?_) (fun i u H1 e1 hi _ => ?_)
    · have e : given (freeN.map V.str).length (fun i => !decide (freeN.getD i "" ∈ ks)) (fun i => V.str (freeN.getD i "")) = (freeN.filter fun z => !decide (z ∈ ks)).map V.str := by
        rw [List.length_map]
        exact given_flt freeN "" (fun z => !decide (z ∈ ks)) V.str
      rw [e] at z
      exact z
    all_goals
      have hil : i < freeN.length := by
        have := (List.getElem?_eq_some_iff.mp hi).1
        rw [List.length_map] at this
        exact this
      rw [List.getElem?_map, List.getElem?_eq_getElem hil] at hi
      cases hi
      rw [getD_at _ hil]
    · refine et_is (et_test (ev_op (ev_var rfl) (ev_var rfl) (rv_niL (sq_of (e1 _ _ hNL18)) rfl (flat_strs ks)))) ?_
      rw [inV_strs]
      congr 1
      rw [Bool.eq_iff_iff, List.any_eq_true, decide_eq_true_eq]
      exact ⟨fun ⟨y, hy, e⟩ => by rw [← beq_iff_eq.mp e]; exact hy, fun h => ⟨_, h, beq_self_eq_true _⟩⟩
    · exact ev_var rfl
  have at0 : atI ((freeN.filter fun z => !decide (z ∈ ks)).map V.str) ((0 : Nat) : Int) = some (.str fx) := atI_nat (by rw [List.getElem?_map, ← List.head?_eq_getElem?, hfx]; rfl)
  refine q_asg (v := .str fx) (ev_opL1 (r := rIxL K) comp (fun _ _ => ev_c) (fun p' H1 hp e => rv_ixL (sq_of hp) at0)) fun H19 e19 => ?_
  have r19 := r018.trans (Drew.of r018.pot e19)
  show tSeq _ _ _ [some (.ref p), some (.ref d), some (.ref NL), some (.ref PL), some (.ref y), some (.ref x), y6, y7, y8, some (.str fx), none] H19
  have drawn : EvP p (tCall spChoice [] E0 (tCons (tVar 0) (tCons (tLst (tCons (tTup (tCons (tC (.str "need")) (tCons (tVar 9) tNil))) (tCons (tTup (tCons (tC (.str "try")) (tCons (tVar 9) (tCons (tC (.str "a")) tNil)))) (tCons (tTup (tCons (tC (.str "read")) (tCons (tC (.str "a")) (tCons (tVar 9) (tCons (tC (.str "x")) tNil))))) tNil)))) tNil))) [some (.ref p), some (.ref d), some (.ref NL), some (.ref PL), some (.ref y), some (.ref x), y6, y7, y8, some (.str fx), none] H19 (fun dd => ∃ ds ∈ lateS fx, dd = .tuple ds) := by
    have z := evp_lstL (p := p) (σ := [some (.ref p), some (.ref d), some (.ref NL), some (.ref PL), some (.ref y), some (.ref x), y6, y7, y8, some (.str fx), none]) (H0 := H19) (evpl_cons (evp_tupL (evpl_cons (evp_str (x := "need")) (evpl_cons (evp_var (i := 9) rfl (.str fx)) evpl_nil)) (by show 2 ≤ 1000; decide)) (evpl_cons (evp_tupL (evpl_cons (evp_str (x := "try")) (evpl_cons (evp_var (i := 9) rfl (.str fx)) (evpl_cons (evp_str (x := "a")) evpl_nil))) (by show 3 ≤ 1000; decide)) (evpl_cons (evp_tupL (evpl_cons (evp_str (x := "read")) (evpl_cons (evp_str (x := "a")) (evpl_cons (evp_var (i := 9) rfl (.str fx)) (evpl_cons (evp_str (x := "x")) evpl_nil)))) (by show 4 ≤ 1000; decide)) evpl_nil))) (by show 3 ≤ 1000; decide)
    refine evp_mono (evp_choice (SA := (· = (lateS fx).map PyData.tuple)) rfl (evp_mono z fun dd h => ⟨_, h, rfl⟩) fun ds h => by rw [h]; exact ⟨by show 0 < 3; decide, by show 3 ≤ 1000; decide⟩) fun dd ⟨ds, e1, e2⟩ => ?_
    subst e1
    obtain ⟨us, hus, e⟩ := List.mem_map.mp e2
    exact ⟨us, hus, e.symm⟩
  refine q_asgP drawn r19.pot fun v10 d10 H20 r20 hs dv10 => ?_
  obtain ⟨us, hus, rfl⟩ := hs
  have r020 := r19.trans r20
  have dv := dt_wo dv10
  have hPL20 := r20.at PLp (e19 _ _ hPL18)
  have rw20 : ∀ r ∈ ini ++ [la], PRowAt H20 r := fun r hr => ((rw18 r hr).ex e19).drew r20 r19.pot (st2 r hr)
  have lam : la ∈ ini ++ [la] := List.mem_append.mpr (.inr (List.mem_singleton.mpr rfl))
  have eX : ((ini ++ [la]).map fun r => V.ref r.t) = (ini.map fun r => V.ref r.t) ++ [V.ref la.t] := by rw [List.map_append]; rfl
  rw [eX] at hPL20
  show tSeq _ _ _ [some (.ref p), some (.ref d), some (.ref NL), some (.ref PL), some (.ref y), some (.ref x), y6, y7, y8, some (.str fx), some v10] H20
  refine q_asgG ?_
  refine ttup_go ?_
  refine ev_op (z := .str la.n) (σ := [some (.ref p), some (.ref d), some (.ref NL), some (.ref PL), some (.ref y), some (.ref x), y6, y7, y8, some (.str fx), some v10]) (r := rIxT K) (ev_op (r := rIxL K) (ev_var (i := 3) rfl) neg1 (rv_ixL (sq_of hPL20) atI_last.1)) ev_c (rv_ixT (st_of (rw20 la lam).ht) (atI_nat (j := 0) rfl)) H20 (Ex.refl _) _ fun H21 e21 => ?_
  refine ⟨by show 1 ≤ sizeLine; decide, fun Fa zFa => ⟨v10, rfl, by show 2 ≤ sizeLine; decide, fun L9 zL9 => ⟨by show 2 ≤ sizeLine; decide, fun T9 zT9 => ⟨.ref PL, rfl, 1, rfl, PL, (ini.map fun r => V.ref r.t) ++ [V.ref la.t], -1, ini.length, rfl, rfl, ?_, ?_, ?_⟩⟩⟩⟩
  · exact Ex.new zT9 _ _ (Ex.new zL9 _ _ (Ex.new zFa _ _ (e21 _ _ hPL20)))
  · have z := (atI_last (l := ini.map fun r => V.ref r.t) (a := V.ref la.t)).2
    rw [List.length_map] at z
    exact z
  have eFa : Ex H21 (upd H21 Fa (.tup [.str "fail"])) := Ex.new zFa
  have hFa : (upd H21 Fa (.tup [.str "fail"])) Fa = some (.tup [.str "fail"]) := upd_same
  generalize upd H21 Fa (.tup [.str "fail"]) = H22 at eFa hFa zL9 zT9 ⊢
  have eL9 : Ex H22 (upd H22 L9 (.lst [.ref Fa, v10])) := Ex.new zL9
  have hL9 : (upd H22 L9 (.lst [.ref Fa, v10])) L9 = some (.lst [.ref Fa, v10]) := upd_same
  have PL9 : PL ≠ L9 := fun e => by rw [← e, eFa _ _ (e21 _ _ hPL20)] at zL9; cases zL9
  generalize upd H22 L9 (.lst [.ref Fa, v10]) = H23 at eL9 hL9 zT9 ⊢
  have eT9 : Ex H23 (upd H23 T9 (.tup [.str la.n, .ref L9])) := Ex.new zT9
  have hT9 : (upd H23 T9 (.tup [.str la.n, .ref L9])) T9 = some (.tup [.str la.n, .ref L9]) := upd_same
  generalize upd H23 T9 (.tup [.str la.n, .ref L9]) = H24 at eT9 hT9 ⊢
  have e24 : Ex H20 H24 := ((e21.trans eFa).trans eL9).trans eT9
  have hPL24 := e24 _ _ hPL20
  have es : ((ini.map fun r => V.ref r.t) ++ [V.ref la.t]).set ini.length (.ref T9) = (ini.map fun r => V.ref r.t) ++ [V.ref T9] := by
    rw [List.set_append_right _ _ (by rw [List.length_map]; exact Nat.le_refl _), List.length_map, Nat.sub_self]
    rfl
  rw [es]
  have zPL0 : H PL = none := fresh_drew r5 pot zPL
  have r25 : Drew p H (upd H24 PL (.lst ((ini.map fun r => V.ref r.t) ++ [V.ref T9]))) := (r020.trans (Drew.of r020.pot e24)).mut zPL0 PLp
  have hPL25 : (upd H24 PL (.lst ((ini.map fun r => V.ref r.t) ++ [V.ref T9]))) PL = some (.lst ((ini.map fun r => V.ref r.t) ++ [V.ref T9])) := upd_same
  have tp25 : Tps H24 (upd H24 PL (.lst ((ini.map fun r => V.ref r.t) ++ [V.ref T9]))) := fun a zs h => by
    rw [upd_ne (fun e => by rw [e, hPL24] at h; cases h)]
    exact h
  have nst : ∀ {c o}, c ≠ PL → H24 c = some o → (upd H24 PL (.lst ((ini.map fun r => V.ref r.t) ++ [V.ref T9]))) c = some o := fun n h => by rw [upd_ne n]; exact h
  generalize upd H24 PL (.lst ((ini.map fun r => V.ref r.t) ++ [V.ref T9])) = H25 at r25 hPL25 tp25 nst ⊢
  obtain ⟨u1, u2, u3⟩ := late_ok fx fm us hus
  have rw25 : ∀ r ∈ ini ++ [(⟨T9, la.n, L9, [failS, us]⟩ : PRow)], PRowAt H25 r := fun r hr => by
    rcases List.mem_append.mp hr with h | h
    · have hm : r ∈ ini ++ [la] := List.mem_append.mpr (.inl h)
      have z := (rw20 r hm).ex e24
      obtain ⟨xs, h1, h2⟩ := z.hl
      exact ⟨tp25 _ _ z.ht, xs, nst (PLl2 r hm).symm h1, dts_step tp25 h2 (st2 r hm)⟩
    · rw [List.mem_singleton.mp h]
      refine ⟨tp25 _ _ hT9, _, nst PL9.symm (eT9 _ _ hL9), ?_⟩
      refine .cons (.tup (tp25 _ _ ((eL9.trans eT9) _ _ hFa)) (.cons (.str _) .nil)) (.cons (dt_step (Dt.ex e24 dv) u1 tp25) .nil)
  have ePL25 : (ini.map fun r => V.ref r.t) ++ [V.ref T9] = ((ini ++ [(⟨T9, la.n, L9, [failS, us]⟩ : PRow)]).map (·.t)).map V.ref := by
    rw [List.map_append, List.map_append, List.map_map]
    rfl
  have l3 : ini.length + 1 ≤ 3 := by
    rw [List.length_append, List.length_singleton] at l2
    omega
  have ks5 : ini.map (·.n) ++ [la.n] = ks := by
    rw [← ks2, List.map_append]
    rfl
  have due : ofDue ((ini ++ [(⟨T9, la.n, L9, [failS, us]⟩ : PRow)]).map rowP) = some (.str la.n, 1) := by
    rw [List.map_append]
    refine due_last (ss := ini.map rowP) (x := la.n) (d := progD [failS, us]) (fun r hr => ?_) (nm2 la lam) ?_ (by rw [List.length_map]; omega) (fun r hr => ?_) ?_
    · obtain ⟨r0, hr0, rfl⟩ := List.mem_map.mp hr
      exact nm2 r0 (List.mem_append.mpr (.inl hr0))
    · rw [List.map_append, List.map_map]
      show (ini.map (·.n) ++ [la.n]).Nodup
      rw [ks5]
      exact ksn
    · obtain ⟨r0, hr0, rfl⟩ := List.mem_map.mp hr
      exact ⟨r0.pr, rfl, pl2 r0 (List.mem_append.mpr (.inl hr0))⟩
    · have z := late_bad (ns := ks) fm fnk hus
      have e : ((ini.map rowP ++ [(la.n, progD [failS, us])]).map fun r => V.str r.1) = ks.map V.str := by
        rw [← ks5, List.map_append, List.map_append, List.map_map, List.map_map]
        rfl
      rw [e]
      exact z
  have nml := nm2 la lam
  show tRet _ _ [some (.ref p), some (.ref d), some (.ref NL), some (.ref PL), some (.ref y), some (.ref x), y6, y7, y8, some (.str fx), some v10] H25
  have left : EvD (tCall (spOfP C n) [] E0 (tCons (tVar 3) tNil)) [some (.ref p), some (.ref d), some (.ref NL), some (.ref PL), some (.ref y), some (.ref x), y6, y7, y8, some (.str fx), some v10] H25 (.list [.str la.n, .int 1]) := fun H1 e1 Q' q' => by
    refine ⟨.ref PL, rfl, PL, (ini ++ [(⟨T9, la.n, L9, [failS, us]⟩ : PRow)]).map (·.t), (ini ++ [(⟨T9, la.n, L9, [failS, us]⟩ : PRow)]).map rowP, rfl, by rw [← ePL25]; exact e1 _ _ hPL25, rows_prs fun r hr => (rw25 r hr).ex e1, ⟨fun e he => ?_, fun e he => ?_⟩, by rw [List.length_map, List.length_append]; show ini.length + 1 ≤ 4; omega, hn2, fun hnn => ?_, fun dd i hdd lo H2 zlo e2 dlo => ?_⟩
    · obtain ⟨y0, hy0, rfl⟩ := List.mem_map.mp he
      obtain ⟨r, hr, rfl⟩ := List.mem_map.mp hy0
      refine ⟨nm_sm ?_, rfl, by show 0 < n; omega⟩
      rcases List.mem_append.mp hr with h | h
      · exact nm2 r (List.mem_append.mpr (.inl h))
      · rw [List.mem_singleton.mp h]; exact nml
    · obtain ⟨y0, hy0, rfl⟩ := List.mem_map.mp he
      obtain ⟨r, hr, rfl⟩ := List.mem_map.mp hy0
      rcases List.mem_append.mp hr with h | h
      · exact prog_sm (pl2 r (List.mem_append.mpr (.inl h))).v
      · rw [List.mem_singleton.mp h]
        show sm (.list [.tuple failS, .tuple us]) = true
        have s1 := step_sm u1
        have s0 := step_sm st_failS
        rw [sm, smAll, smAll, smAll, s0, s1]
        rfl
    · rw [due] at hnn
      cases hnn
    · rw [due] at hdd
      cases hdd
      exact q' _ H2 e2 dlo
  have right : EvD (tLst (tCons (tOp (rIxT K) (tOp (rIxL K) (tVar 3) (tUn (rU fun i => .int (-i)) (tC (.int 1)))) (tC (.int 0))) (tCons (tC (.int 1)) tNil))) [some (.ref p), some (.ref d), some (.ref NL), some (.ref PL), some (.ref y), some (.ref x), y6, y7, y8, some (.str fx), some v10] H25 (.list [.str la.n, .int 1]) :=
    evd_lst (evda_cons (evd_of (ev_op (r := rIxT K) (ev_op (r := rIxL K) (ev_var rfl) neg1 (rv_ixL (sq_of hPL25) atI_last.1)) ev_c (rv_ixT (st_of (tp25 _ _ hT9)) (atI_nat (j := 0) rfl))) (.str _)) (evda_cons evd_int evda_nil)) (by show 2 ≤ 1000; decide)
  refine s_ret (v := .bl true) (ev_is (ev_eqD2 left right (due2_sha nml _) (due2_sha nml _)) (by rw [due2_eqv])) fun H26 e26 => q H26 (r25.trans (Drew.of r25.pot e26))
end
end Cr
/-! k14: the law -/
namespace Cr
open PySem PySem.Spec PyProof.Rows L2 Evl
abbrev sLaw : Stmt := topS 50
abbrev nLaw : List Str := ["_law_script", "_law_k", "_law_pot_here", "_law_modules_here", "_law_labels", "_law_passed", "_law_made", "_law_turned", "_law_other", "_law_thing", "_law_name"]
theorem scLaw : FnScope nLaw ["_law_script"] (defScope sLaw) := ⟨rfl, rfl, rfl, by decide +kernel, rfl, by decide +kernel, by decide +kernel⟩
def rDClr : V → List V → Hp → VK → Prop := fun x xs H Q => ∃ (a : Addr) (kvs : List (Key × V)), x = .ref a ∧ xs = [] ∧ H a = some (.dK kvs) ∧ Q .non (upd H a (.dK []))
theorem mt_dclr {X : Cx} : MtR X "dict.clear" rDClr := by
  intro pins s σ H x xs v us Q I rx rxs h
  obtain ⟨a, kvs, rfl, rfl, ha, q⟩ := h
  cases rx
  cases rxs
  exact d_clear I ha fun s' I' => ⟨.non, _, I', rfl, q⟩
def spLaw (K : PySem.W.Frag) : Sp := fun vs H Q _ => ∃ (a : Addr) (ns : List Int), vs = [.ref a] ∧ SqL K H a (ns.map V.int) ∧ ns.length ≤ 63 ∧ ∀ H', Q (.bl true) H'
theorem dict_tl {K : PySem.W.Frag} {tl te : TE} {tt : TT} {g : TG} {vs : List Nat} {σ : L2.St} {H : Hp} {Q : VK} (h : tl σ H fun x H1 => tCB (rDictP K) (tCons (tLc (iList K (tC x)) g tt te vs) tNil) σ H1 Q) : tCB (rDictP K) (tCons (tLc (iList K tl) g tt te vs) tNil) σ H Q := h
theorem exD {H H1 H' : Hp} {p : Addr} (e : Ex H H1) (z : H p = none) (r : Drew p H1 H') : Ex H H' := fun c o h => r.at (ne_of_none h z) (e c o h)
theorem valV_mem {kvs : List (Key × V)} {k : Key} {v : V} (h : valV kvs k = some v) : (k, v) ∈ kvs := by
  unfold valV at h
  obtain ⟨kv, h1, h2⟩ := Option.map_eq_some_iff.mp h
  have m := List.mem_of_find?_eq_some h1
  have z := List.find?_some h1
  have e : kv.1 = k := of_decide_eq_true z
  have : kv = (k, v) := Prod.ext e h2
  rw [← this]
  exact m
theorem othB_dt {H : Hp} {v : V} {d : PyData} (h : Dt H v d) (n : ∀ b, d ≠ .bool b) : OthB H v := by
  cases h with
  | non => trivial
  | bl b => exact absurd rfl (n b)
  | int i => trivial
  | str x => trivial
  | lst h _ => exact .inl ⟨_, h⟩
  | tup h _ => exact .inr (.inl ⟨_, h⟩)
  | dct h _ => exact .inr (.inr ⟨_, h⟩)
theorem eq_srt {L L2 : Lib} (v : LibV L) (v2 : LibV L2) : eqL L2 L = eqL (srtL L) (srtL L2) := by
  rw [Bool.eq_iff_iff, eqL_iff v2.nd v.nd (libOk_st v2) (libOk_st v), eqL_iff (srt_v v).nd (srt_v v2).nd (libOk_st (srt_v v)) (libOk_st (srt_v v2)), srt_id (srt_up v.nd), srt_id (srt_up v2.nd)]
  exact ⟨Eq.symm, Eq.symm⟩
theorem lib_perm {L : Lib} (ok : LibOk L) {os : List Str} (pm : os.Perm (L.map (·.1))) : LibOk (os.map fun n => (n, progL L n)) ∧ (os.map fun n => (n, progL L n)).map (·.1) = os ∧ srtL (os.map fun n => (n, progL L n)) = srtL L := by
  have en : (os.map fun n => (n, progL L n)).map (·.1) = os := by
    rw [List.map_map]
    exact (List.map_congr_left (g := id) fun n _ => rfl).trans (List.map_id _)
  have ndo : os.Nodup := pm.nodup_iff.mpr ok.v.nd
  have mem : ∀ r, r ∈ (os.map fun n => (n, progL L n)) ↔ r ∈ L := fun r => by
    rw [List.mem_map]
    constructor
    · rintro ⟨n, hn, rfl⟩
      exact progL_at ok.v.nd (pm.mem_iff.mp hn)
    · intro h
      exact ⟨r.1, pm.mem_iff.mpr (List.mem_map_of_mem h), by rw [progL_in ok.v.nd h]⟩
  have ll : (os.map fun n => (n, progL L n)).length = L.length := by rw [List.length_map, pm.length_eq, List.length_map]
  refine ⟨⟨⟨fun r hr => ok.v.nm r ((mem r).mp hr), by rw [en]; exact ndo, by rw [ll]; exact ok.v.l1, by rw [ll]; exact ok.v.l40, fun r hr => ok.v.ok r ((mem r).mp hr)⟩, fun r hr ds hd => ?_⟩, en, srt_same (by rw [en]; exact ndo) ok.v.nd mem⟩
  rw [en, okMod_same (ns' := L.map (·.1)) (fun a => pm.mem_iff)]
  exact ok.mi r ((mem r).mp hr) ds hd
def oddL (L : Lib) : List PyData := [.none, .int 0, .str "", .tuple [], .list [], .dict [], libD L, .str (reprL (srtL L)), .list ((srtS (L.map (·.1))).map PyData.str)]
section
variable {P : Program} {w : World} {K : PySem.W.Frag} {mg : Str → Option Value} {base : Heap}
theorem ok_law {f C fL : Addr} {fd dL : FuncData} {k kl j : Nat} {tM : Tok} (F : Fun K "law" "law" sLaw f fd) (B : Blt mg) (T : LbC K mg C) (gM : mg "MOST_MODULES" = some (.int 40 tM)) (h1 : Has P w K mg base k "_law_pot" ["_law_script", "_law_index"] (spPot K)) (h2 : Has P w K mg base k "_law_draw" ["_law_pot_here", "_law_bound"] spDraw)
    (h3 : Has P w K mg base k "_law_mixed" ["_law_pot_here", "_law_options"] spMixed) (h4 : Has P w K mg base k "_law_modules" pLMo spLMo) (h5 : Has P w K mg base k "_law_told_right" ["_law_made", "_law_modules_here"] (spTR C)) (h6 : HasO P w K mg base k "_law_alike" ["_law_one", "_law_other", "_law_due"] (spAlk C))
    (h7 : Has P w K mg base k "_law_unlike" ["_law_pot_here", "_law_modules_here"] spUnl) (h8 : Has P w K mg base k "_law_pairs_right" ["_law_pot_here", "_law_modules_here"] spPR) (h9 : HasO P w K mg base k "_law_fixed_pairs_right" [] spFix)
    (ML : Mk K C fL) (GL : FnOk P w K mg base CX0 kl fL dL ["self", "modules"] (spLInit C)) (bL : Binds K dL ["self", "modules"] []) (hkl : kl + 1 ≤ k) (hR : HasReprL P w K mg base j C) (hj : j + 1 ≤ k) :
    FnG P w K mg base CX0 (k + 1) f fd ["_law_script"] (spLaw K) := by
  obtain ⟨f1, d1, G1, b1, k1, g1⟩ := h1.ex
  obtain ⟨f2, d2, G2, b2, k2, g2⟩ := h2.ex
  obtain ⟨f3, d3, G3, b3, k3, g3⟩ := h3.ex
  obtain ⟨f4, d4, G4, b4, k4, g4⟩ := h4.ex
  obtain ⟨f5, d5, G5, b5, k5, g5⟩ := h5.ex
  obtain ⟨f6, d6, G6, b6, k6, g6⟩ := h6.ex
  obtain ⟨f7, d7, G7, b7, k7, g7⟩ := h7.ex
  obtain ⟨f8, d8, G8, b8, k8, g8⟩ := h8.ex
  obtain ⟨f9, d9, G9, b9, k9, g9⟩ := h9.ex
  obtain ⟨fR, dR, GR, bR, iR, tR⟩ := hR.ex
  refine okG F scLaw (fun vs H Q E h => by obtain ⟨_, _, rfl, _⟩ := h; rfl) (fun cdv A outer s H vs Q E hq hr h => ?_)
  obtain ⟨a, ns, rfl, hS, n63, q⟩ := h
  have hrl : Room (kl + 1) _ := hr.mono hkl
  have hrj1 : Room (j + 1) _ := hr.mono hj
  have hu := hu_of hr
  refine ⟨_, pss_cons (ps_for PassesOwn.never rfl (pi_range1 (by rfl) B.range (pa_cons (pe_callB (call_max2 rfl) (by rfl) B.max bMax (pa_cons pe_int (pa_cons (pe_callB (call_min2 rfl) (by rfl) B.min bMin (pa_cons (pe_callB call_len_seq (by rfl) B.len bLen (pa_cons (pv 0) pa_nil)) (pa_cons pe_int pa_nil))) pa_nil))) pa_nil)) (pg_name (i := 1) scLaw.nd rfl (.inl rfl))
      (pss_cons (ps_set (i := 2) scLaw.nd rfl (.inl rfl) (callG (E := E0) G1 hq hr (by rfl) g1 k1 b1 .nil pass0 (pa_cons (pv 0) (pa_cons (pv 1) pa_nil))))
      (pss_cons (ps_asg (callG (E := E0) G4 hq hr (by rfl) g4 k4 b4 .nil pass0 (pa_cons (pv 2) (pa_cons (pe_ix ix_list (pe_lst (pa_cons pe_int (pa_cons pe_int pa_nil))) (pe_callTy call_int1 (by rfl) B.int bInt (pa_cons (pe_cmpR op_eq (callG (E := E0) G2 hq hr (by rfl) g2 k2 b2 .nil pass0 (pa_cons (pv 2) (pa_cons pe_int pa_nil))) pe_int (nomark _)) pa_nil)) (fun _ _ => rfl)) (pa_cons pe_int (pa_cons pe_bl pa_nil))))) (pg_tup rfl (pgs_cons (pg_name (i := 3) scLaw.nd rfl (.inr rfl)) (pgs_cons (pg_name (i := 4) scLaw.nd rfl (.inl rfl)) pgs_nil))))
      (pss_cons (ps_set (i := 5) scLaw.nd rfl (.inl rfl) (pe_lock (pe_callTy (call_dictP (by rfl)) (by rfl) B.dict bDict (pa_cons
        (pe_lc (own := [("_law_name", 10)]) (g := gName 10) (tt := tYes) (te := tTup (tCons (tVar 10) (tCons (tCB (rListK K) (tCons (tDGet (tVar 3) (tVar 10)) tNil)) tNil))) rfl scLaw.nd (pi_keys (pv 3)) (blkOk_by (own := [("_law_name", 10)]) (N := nLaw) (sc := defScope sLaw) (by decide +kernel))
          (fun _ _ _ _ _ => pg_name (i := 10) scLaw.nd rfl (Or.inl rfl)) (fun _ _ _ _ _ => pts_nil) (fun _ _ _ _ _ => by exact pe_tup (pa_cons (pv 10) (pa_cons (pe_callTy (listK (K := K) rfl) (by rfl) B.list bList (pa_cons (pe_dget hu (pv 3) (pv 10) (fun _ _ => rfl)) pa_nil)) pa_nil)))) pa_nil))))
      (pss_cons (ps_set (i := 6) scLaw.nd rfl (.inl rfl) (pe_make (E := E0) ML GL hrl (by rfl) T.at_ bL .nil pass0 (pa_cons (pv 5) pa_nil)))
      (pss_cons (ps_lock (ps_for PassesOwn.never rfl (pi_keys (pv 5)) (pg_name (i := 10) scLaw.nd rfl (.inl rfl)) (pss_one (ps_expr (pe_bm PySem.F.plainAttrs_list PySem.F.slot_list_append PySem.F.type_list_append mt_append (pe_dget hu (pv 5) (pv 10) (fun _ _ => rfl)) (pa_cons (pe_tup (pa_cons pe_str pa_nil)) pa_nil))))))
      (pss_cons (ps_expr (pe_bm0 PySem.F.plainAttrs_dict PySem.F.slot_dict_clear PySem.F.type_dict_clear mt_dclr (pv 5)))
      (pss_cons (ps_if (PW.pt (pw_or (pt_not (pt_val (callG (E := E0) G5 hq hr (by rfl) g5 k5 b5 .nil pass0 (pa_cons (pv 6) (pa_cons (pv 3) pa_nil))))) (pw_or1 (pt_not (pt_val (callG (E := E0) G5 hq hr (by rfl) g5 k5 b5 .nil pass0 (pa_cons (pv 6) (pa_cons (pv 3) pa_nil)))))))) (pss_one (ps_ret pe_bl)) pss_nil)
      (pss_cons (ps_set (i := 7) scLaw.nd rfl (.inl rfl) (pe_callTy (call_dictP (by rfl)) (by rfl) B.dict bDict (pa_cons
        (pe_lc (own := [("_law_name", 10)]) (g := gName 10) (tt := tYes) (te := tTup (tCons (tVar 10) (tCons (tCB (rListK K) (tCons (tDGet (tVar 3) (tVar 10)) tNil)) tNil))) rfl scLaw.nd (pi_list (callG (E := E0) G3 hq hr (by rfl) g3 k3 b3 .nil pass0 (pa_cons (pv 2) (pa_cons (pe_callTy (call_listD rfl) (by rfl) B.list bList (pa_cons (pv 3) pa_nil)) pa_nil)))) (blkOk_by (own := [("_law_name", 10)]) (N := nLaw) (sc := defScope sLaw) (by decide +kernel))
          (fun _ _ _ _ _ => pg_name (i := 10) scLaw.nd rfl (Or.inl rfl)) (fun _ _ _ _ _ => pts_nil) (fun _ _ _ _ _ => by exact pe_tup (pa_cons (pv 10) (pa_cons (pe_callTy (listK (K := K) rfl) (by rfl) B.list bList (pa_cons (pe_dget hu (pv 3) (pv 10) (fun _ _ => rfl)) pa_nil)) pa_nil)))) pa_nil)))
      (pss_cons (ps_if (PW.pt (pw_or (pt_not (pt_val (pe_call (E := E0) G6 hr (by rfl) g6 k6 b6 .nil pass0 (pa_cons (pv 6) (pa_cons (pe_make (E := E0) ML GL hrl (by rfl) T.at_ bL .nil pass0 (pa_cons (pv 7) pa_nil)) (pa_cons pe_bl pa_nil)))))) (pw_or1 (pt_not (pt_val (pe_call (E := E0) G6 hr (by rfl) g6 k6 b6 .nil pass0 (pa_cons (pv 6) (pa_cons (pv 6) (pa_cons pe_bl pa_nil))))))))) (pss_one (ps_ret pe_bl)) pss_nil)
      (pss_cons (ps_set (i := 8) scLaw.nd rfl (.inl rfl) (callG (E := E0) G7 hq hr (by rfl) g7 k7 b7 .nil pass0 (pa_cons (pv 2) (pa_cons (pv 3) pa_nil))))
      (pss_cons (ps_if (pt_not (pt_val (pe_call (E := E0) G6 hr (by rfl) g6 k6 b6 .nil pass0 (pa_cons (pv 6) (pa_cons (pe_make (E := E0) ML GL hrl (by rfl) T.at_ bL .nil pass0 (pa_cons (pv 8) pa_nil)) (pa_cons (pe_cmpR (op_eqLK hr.units) (pv 8) (pv 3) (nomark _)) pa_nil)))))) (pss_one (ps_ret pe_bl)) pss_nil)
      (pss_cons (ps_for PassesOwn.never rfl (pi_list (pe_lst (pa_cons pe_non (pa_cons pe_int (pa_cons pe_str (pa_cons (pe_tup pa_nil) (pa_cons (pe_lst pa_nil) (pa_cons pe_dnewK (pa_cons (pe_callTy call_dictD (by rfl) B.dict bDict (pa_cons (pv 3) pa_nil)) (pa_cons (pe_callB (call_reprO iR tR GR bR hq hrj1) (by rfl) B.repr bRepr (pa_cons (pv 6) pa_nil)) (pa_cons (pe_callB (call_sortedD rfl) (by rfl) B.sorted bSrt (pa_cons (pv 3) pa_nil)) pa_nil))))))))))) (pg_name (i := 9) scLaw.nd rfl (.inl rfl))
        (pss_one (ps_if (pt_not (pt_val (pe_call (E := E0) G6 hr (by rfl) g6 k6 b6 .nil pass0 (pa_cons (pv 6) (pa_cons (pv 9) (pa_cons pe_bl pa_nil)))))) (pss_one (ps_ret pe_bl)) pss_nil)))
      (pss_one (ps_if (pt_not (pt_val (callG (E := E0) G8 hq hr (by rfl) g8 k8 b8 .nil pass0 (pa_cons (pv 2) (pa_cons (pv 3) pa_nil))))) (pss_one (ps_ret pe_bl)) pss_nil)))))))))))))))
    (pss_one (ps_ret (pe_and (pe_cmpR op_eq (pe_glob (v := .int 40) (by rfl) gM ⟨_, rfl⟩) pe_int (nomark _)) (pe_one (pe_call0 (E := E0) G9 hr (by rfl) g9 k9 b9 .nil pass0))))), ?_⟩
  have cnt : ∃ N : Int, EvA (tCons (tCB rMax2 (tCons (tC (.int 1)) (tCons (tCB (fun xs H Q => ∃ i j, xs = [V.int i, V.int j] ∧ Q (.int (if j < i then j else i)) H) (tCons (tCB (rLenS K) (tCons (tVar 0) tNil)) (tCons (tC (.int 5)) tNil))) tNil))) tNil) (L2.start nLaw [.ref a]) H [.int N] ∧ 0 ≤ N ∧ N ≤ 100 := by
    refine ⟨_, ea_cons (ev_max2 ev_c (ev_cb (ea_cons (ev_cb (ea_cons (ev_var rfl) ea_nil) (rc_lenL hS)) (ea_cons ev_c ea_nil)) (fun H3 _ Q q => ⟨_, _, rfl, q H3 (Ex.refl H3)⟩))) ea_nil, ?_, ?_⟩
    · split <;> omega
    · split
      · split <;> omega
      · omega
  obtain ⟨N, hN, n0, n1⟩ := cnt
  refine q_forR1 hN ⟨n0, by omega⟩ (fun i σ' H' => (∃ y1 y2 y3 y4 y5 y6 y7 y8 y9 y10, σ' = [some (.ref a), y1, y2, y3, y4, y5, y6, y7, y8, y9, y10]) ∧ Ex H H') (fun H1 e1 => ⟨⟨none, none, none, none, none, none, none, none, none, none, rfl⟩, e1⟩) ?_ ?_
  rotate_left
  · rintro σ' Ht ⟨⟨y1, y2, y3, y4, y5, y6, y7, y8, y9, y10, rfl⟩, _⟩
    refine s_ret (v := .bl true) (ev_is (ev_andV (a := true) (ev_is (ev_op ev_c ev_c (rv_eq rfl)) (by rw [decide_eq_true rfl])) fun _ => ev_call (z := .bl true) ea_nil (fun H1 e1 Q' q' E' => ⟨rfl, fun H2 e2 => q' H2 e2⟩)) rfl) fun H1 e1 => q H1
  rintro i σ' Ht hi ⟨⟨y1, y2, y3, y4, y5, y6, y7, y8, y9, y10, rfl⟩, et⟩
  refine q_asgAny ⟨.ref a, rfl, .int (i : Int), rfl, a, ns, i, rfl, ex_l et hS, by omega, fun p H1 zp e1 pot => ?_⟩
  show tSeq _ _ _ [some (.ref a), some (.int (i : Int)), some (.ref p), y3, y4, y5, y6, y7, y8, y9, y10] H1
  -- the modules
  refine q_asgG ?_
  refine ⟨.ref p, rfl, by show 2 ≤ sizeLine; decide, fun o zo => ?_⟩
  have eo : Ex H1 (upd H1 o (.lst [.int 8, .int 40])) := Ex.new zo
  have ho : (upd H1 o (.lst [.int 8, .int 40])) o = some (.lst [.int 8, .int 40]) := upd_same
  have op : o ≠ p := (Drew.refl pot).neq zo
  generalize upd H1 o (.lst [.int 8, .int 40]) = Ho at eo ho ⊢
  refine ⟨.ref p, rfl, p, 6, rfl, by decide, by decide +kernel, pot.ex eo, fun c H2 c0 c6 r2 => ⟨rfl, .inr ⟨_, rfl, ?_⟩⟩⟩
  obtain ⟨most, hmost, m1, m40⟩ : ∃ most : Nat, atI [V.int 8, V.int 40] (if decide (V.int c = V.int 0) = true then (1 : Int) else 0) = some (.int (most : Int)) ∧ 1 ≤ most ∧ most ≤ 40 := by
    by_cases hc : V.int c = V.int 0
    · rw [decide_eq_true hc]
      exact ⟨40, atI_nat (j := 1) rfl, by decide, by decide⟩
    · rw [decide_eq_false hc]
      exact ⟨8, atI_nat (j := 0) rfl, by decide, by decide⟩
  have rA : Drew p H1 H2 := (Drew.of pot eo).trans r2
  refine ⟨o, _, _, .int (most : Int), rfl, rfl, sq_of (r2.at op ho), hmost, ?_⟩
  refine ⟨p, most, 10, false, rfl, rA.pot, m1, m40, by decide, fun t D lb ls L H3 zt r3 ht zD Dp dD0 ok lL lP _ lbp hlb lls hls => ?_⟩
  refine pair_go ht ?_
  have rB := rA.trans r3
  have dD := dt_wo dD0
  have v := ok.v
  have sv := libOk_st v
  have nd := v.nd
  have l40 := v.l40
  have svS := libOk_st (srt_v v)
  have ndS := (srt_v v).nd
  show tSeq _ _ _ [some (.ref a), some (.int (i : Int)), some (.ref p), some (.ref D), some (.ref lb), y5, y6, y7, y8, y9, y10] H3
  -- a dict that is passed
  refine q_asgAny ?_
  refine copy_lib (K := K) (i := 3) (j := 10) rfl dD nd l40 (fun _ => rfl) (by show 10 < 11; decide) rfl (fun _ => rfl) (fun _ => rfl) fun Pd H4 zPd e4 hPd ⟨xf, rows, cp, hrn, hxf⟩ => ?_
  show tSeq _ _ _ [some (.ref a), some (.int (i : Int)), some (.ref p), some (.ref D), some (.ref lb), some (.ref Pd), y6, y7, y8, y9, y10] H4
  refine q_asgAny ?_
  refine make_new (C := C) (ev_var rfl) hPd ok fun x H5 zx e5 nwx => ?_
  show tSeq _ _ _ [some (.ref a), some (.int (i : Int)), some (.ref p), some (.ref D), some (.ref lb), some (.ref Pd), some (.ref x), y7, y8, y9, y10] H5
  have hPd5 := e5 _ _ cp.at_
  have row5 : ∀ r ∈ rows, H5 r.2 = some (.lst (xf r.1)) := fun r hr => e5 _ _ (cp.row r hr).2.2
  have rowP : ∀ r ∈ rows, r.2 ≠ Pd := fun r hr => (cp.row r hr).2.1
  have row4 : ∀ r ∈ rows, H4 r.2 = some (.lst (xf r.1)) := fun r hr => (cp.row r hr).2.2
  have row3 : ∀ r ∈ rows, H3 r.2 = none := fun r hr => (cp.row r hr).1
  have rowL : ∀ r ∈ rows, (xf r.1).length ≤ 10 := fun r hr => by
    have m : r.1 ∈ L.map (·.1) := by rw [← hrn]; exact List.mem_map_of_mem hr
    obtain ⟨y, hy, e⟩ := List.mem_map.mp m
    have z := (hxf y hy).length
    rw [List.length_map, e] at z
    rw [z]
    exact lP y hy
  -- its lists change, then it is emptied
  refine ⟨Pd, _, hPd5, trivial, fun od => ?_⟩
  refine ⟨.ref Pd, rfl, Pd, od, rfl, .inl ⟨_, upd_same, for_it walk_keys (fun m σ' H' => (∃ y10, σ' = [some (.ref a), some (.int (i : Int)), some (.ref p), some (.ref D), some (.ref lb), some (.ref Pd), some (.ref x), y7, y8, y9, y10]) ∧ H' Pd = some (.frz od (.dK (rows.map fun r => ((.inr r.1 : Key), V.ref r.2)))) ∧ (∀ c o, c ≠ Pd → (∀ r ∈ rows, c ≠ r.2) → H5 c = some o → H' c = some o) ∧ ∀ r ∈ rows, ∃ xs, H' r.2 = some (.lst xs) ∧ xs.length ≤ 10 + m)
    ⟨⟨_, rfl⟩, upd_same, fun c o n1 _ h => by rw [upd_ne n1]; exact h, fun r hr => ⟨_, by rw [upd_ne (rowP r hr)]; exact row5 r hr, rowL r hr⟩⟩ (fun m σ' H' _ hP => hP.2.1) (fun m u σ' H' H'' hm hP hY => ?_) (fun σ' H6 hP => ?_)⟩⟩
  · obtain ⟨⟨y10', rfl⟩, hfz, hfr, hls⟩ := hP
    obtain ⟨rfl, k0, v0, hk0, rfl⟩ := hY
    have hmem := List.mem_of_getElem? hk0
    obtain ⟨r, hr, er⟩ := List.mem_map.mp hmem
    cases er
    obtain ⟨v', hv', _⟩ := lkv_at (L := L) (n := r.1) (H := H4) (kvs := rows.map fun r => ((.inr r.1 : Key), V.ref r.2)) (by
      obtain ⟨kk, h1, h2⟩ := dt_dct hPd
      rw [cp.at_] at h1
      cases h1
      exact h2) (by rw [← hrn]; exact List.mem_map_of_mem hr)
    obtain ⟨r', hr', er'⟩ := List.mem_map.mp (valV_mem hv')
    injection er' with er1 er2
    subst er2
    obtain ⟨xs, hxs, lxs⟩ := hls r' hr'
    show tDrop _ _ [some (.ref a), some (.int (i : Int)), some (.ref p), some (.ref D), some (.ref lb), some (.ref Pd), some (.ref x), y7, y8, y9, some (.str r.1)] H''
    have hml : m < 100 := by
      have := (List.getElem?_eq_some_iff.mp hk0).1
      rw [List.length_map, ← List.length_map (f := fun r : Str × Addr => r.1), hrn, List.length_map] at this
      omega
    refine s_appU (K := K) hxs (ev_dgetR (ev_var rfl) (ev_var rfl) (.inr ⟨od, hfz⟩) hv') (eu_tup (ea_cons ev_c ea_nil) (by show 1 ≤ 100000; decide)) (by omega) fun T1 H1' zT1 e1' hT1 => ?_
    refine ⟨⟨_, rfl⟩, by rw [upd_ne (rowP r' hr').symm]; exact e1' _ _ hfz, fun c o n1 n2 h => by rw [upd_ne (n2 r' hr')]; exact e1' _ _ (hfr c o n1 n2 h), fun r2 hr2 => ?_⟩
    by_cases e : r2.2 = r'.2
    · rw [e]
      exact ⟨_, upd_same, by rw [List.length_append, List.length_singleton]; omega⟩
    · obtain ⟨xs2, h1, h2⟩ := hls r2 hr2
      exact ⟨xs2, by rw [upd_ne e]; exact e1' _ _ h1, by omega⟩
  obtain ⟨⟨y10', rfl⟩, hfz, hfr, _⟩ := hP
  refine ⟨hfz, ?_⟩
  refine ⟨.ref Pd, rfl, Or.inr (Or.inr (Or.inl ⟨rfl, .inl ⟨_, upd_same⟩⟩)), Pd, _, rfl, rfl, upd_same, ?_⟩
  have fr7 : ∀ c o, c ≠ Pd → (∀ r ∈ rows, c ≠ r.2) → H5 c = some o → (upd (upd H6 Pd (.dK (rows.map fun r => ((.inr r.1 : Key), V.ref r.2)))) Pd (.dK [])) c = some o := fun c o n1 n2 h => by
    rw [upd_ne n1, upd_ne n1]
    exact hfr c o n1 n2 h
  generalize upd (upd H6 Pd (.dK (rows.map fun r => ((.inr r.1 : Key), V.ref r.2)))) Pd (.dK []) = H7 at fr7 ⊢
  clear hfr hfz
  have e37 : Ex H3 H7 := fun c o h => fr7 c o (ne_of_none h zPd) (fun r hr => ne_of_none h (row3 r hr)) ((e4.trans e5) _ _ h)
  have tp57 : Tps H5 H7 := fun c zs h => fr7 c _ (fun e => by rw [e, hPd5] at h; cases h) (fun r hr e => by rw [e, row5 r hr] at h; cases h) h
  have nw7 := nwx.keepN svS zx (fun c o z h => fr7 c o (fun e => by rw [e, cp.at_] at z; cases z) (fun r hr e => by rw [e, row4 r hr] at z; cases z) h) tp57
  obtain ⟨kvs, hk3, hkv3⟩ := dt_dct dD
  have hD4 : H4 D ≠ none := fun z => by rw [e4 _ _ hk3] at z; cases z
  have dD7 := Dt.ex e37 dD
  have r7 := rB.trans (Drew.of rB.pot e37)
  show tSeq _ _ _ [some (.ref a), some (.int (i : Int)), some (.ref p), some (.ref D), some (.ref lb), some (.ref Pd), some (.ref x), y7, y8, y9, y10'] H7
  have tr : ∀ {H' : Hp}, Ex H7 H' → Ev (tCall (spTR C) [] E0 (tCons (tVar 6) (tCons (tVar 3) tNil))) [some (.ref a), some (.int (i : Int)), some (.ref p), some (.ref D), some (.ref lb), some (.ref Pd), some (.ref x), y7, y8, y9, y10'] H' (.bl true) := fun {H'} e' => ev_call (ea_cons (ev_var rfl) (ea_cons (ev_var rfl) ea_nil)) (fun H1' e1' Q' q' E' => ⟨x, D, L, H4, rfl, nw7.ex (e'.trans e1'), hD4, Dt.ex (e'.trans e1') dD7, ok, lP, q'⟩)
  refine q_when (b := false) (et_is (et_or (a := false) (et_is (et_not (et_B (tr (Ex.refl _)))) rfl) fun _ => et_is (et_not (et_B (tr (Ex.refl _)))) rfl) rfl) (fun z => nomatch z) (fun _ H8 e8 => ?_)
  have lb8 := (nw7.ex e8).at_
  have dD8 := Dt.ex e8 dD7
  have r8 := r7.trans (Drew.of r7.pot e8)
  show tSeq _ _ _ [some (.ref a), some (.int (i : Int)), some (.ref p), some (.ref D), some (.ref lb), some (.ref Pd), some (.ref x), y7, y8, y9, y10'] H8
  -- the same modules in another order
  refine q_asgAny ?_
  refine dict_tl ?_
  obtain ⟨kv8, hk8, hkv8⟩ := dt_dct dD8
  have hL8 : LKv H8 kv8 L := hkv8
  have keys : kv8.map (fun kv => kV kv.1) = (L.map (·.1)).map V.str := by
    have z := congrArg (List.map kV) (lkv_keys hL8)
    rw [List.map_map, List.map_map] at z
    rw [List.map_map]
    exact z
  refine ⟨.ref p, rfl, .ref D, rfl, D, kv8, rfl, .inl hk8, fun LD zLD => ?_⟩
  rw [keys]
  have LDp : LD ≠ p := (Drew.refl r8.pot).neq zLD
  have eL : Ex H8 (upd H8 LD (.lst ((L.map (·.1)).map V.str))) := Ex.new zLD
  have hLD : (upd H8 LD (.lst ((L.map (·.1)).map V.str))) LD = some (.lst ((L.map (·.1)).map V.str)) := upd_same
  generalize upd H8 LD (.lst ((L.map (·.1)).map V.str)) = H9 at eL hLD ⊢
  have r89 := Drew.of r8.pot eL
  refine ⟨p, LD, (L.map (·.1)).map V.str, (L.map (·.1)).map PyData.str, rfl, r89.pot, LDp, hLD, dts_strs _, by rw [List.length_map, List.length_map]; omega, fun es he => strs_sha (ns := L.map (·.1)) (fun x hx => by obtain ⟨r, hr, rfl⟩ := List.mem_map.mp hx; exact v.nm r hr) he, fun ol bs H10 zol r10 hol pm => ?_⟩
  obtain ⟨os, eos, pos⟩ : ∃ os : List Str, bs.map (·.1) = os.map V.str ∧ os.Perm (L.map (·.1)) := by
    refine perm_strs ?_
    have z := pm.map (·.1)
    have e : (((L.map (·.1)).map V.str).zip ((L.map (·.1)).map PyData.str)).map (·.1) = (L.map (·.1)).map V.str := List.map_fst_zip (by simp)
    rw [e] at z
    exact z
  rw [eos] at hol
  have r810 := r89.trans r10
  have lb10 := lb8.drew r810 r8.pot svS
  have dD10 := lib_drew r810 r8.pot sv dD8
  have rr10 := r8.trans r810
  obtain ⟨kv10, hk10, hkv10⟩ := dt_dct dD10
  have hL10 : LKv H10 kv10 L := hkv10
  obtain ⟨ok2, en2, es2⟩ := lib_perm ok pos
  refine dictC_list (K := K) (tl := tC (.ref ol)) (tn := tCB (rListK K) (tCons (tDGet (tVar 3) (tVar 10)) tNil)) (σ := [some (.ref a), some (.int (i : Int)), some (.ref p), some (.ref D), some (.ref lb), some (.ref Pd), some (.ref x), y7, y8, y9, y10']) (j := 10) (ns := os) (rowsOf H10 kv10) ev_c hol (pos.nodup_iff.mpr nd) (by rw [pos.length_eq, List.length_map]; omega) (fun _ => rfl) (by show 10 < 11; decide) rfl (fun m hm H' e' => el_rows (ev_var rfl) (ev_var rfl) (.inl (e' _ _ hk10)) hL10 (pos.mem_iff.mp hm) fun c xs h => e' _ _ h) fun Td rs H11 hrs e11 ct => ?_
  have dT : Dt H11 (.ref Td) (libD (os.map fun n => (n, progL L n))) := by
    refine ct.lib (by rw [en2]; exact hrs) (by rw [en2]; exact pos.nodup_iff.mpr nd) fun r hr => ?_
    obtain ⟨m, hm, rfl⟩ := List.mem_map.mp hr
    obtain ⟨_, _, _, z⟩ := rows_of hL10 (pos.mem_iff.mp hm)
    exact DtAll.ex e11 z
  generalize os.map (fun n => (n, progL L n)) = LT at ok2 es2 dT
  have lb11 := lb10.ex e11
  have r11 := rr10.trans (Drew.of rr10.pot e11)
  have dD11 := Dt.ex e11 dD10
  show tSeq _ _ _ [some (.ref a), some (.int (i : Int)), some (.ref p), some (.ref D), some (.ref lb), some (.ref Pd), some (.ref x), some (.ref Td), y8, y9, y10'] H11
  have alk1 : Ev (tCall (spAlk C) [] E0 (tCons (tVar 6) (tCons (tMake C (spLInit C) [] E0 (tCons (tVar 7) tNil)) (tCons (tC (.bl true)) tNil)))) [some (.ref a), some (.int (i : Int)), some (.ref p), some (.ref D), some (.ref lb), some (.ref Pd), some (.ref x), some (.ref Td), y8, y9, y10'] H11 (.bl true) := fun H1' e1' Q' q' =>
    ⟨.ref x, rfl, evLb_make (ev_var rfl) dT ok2 H1' e1' _ fun y H2' e2' lb2 => ⟨x, .ref y, true, srtL L, rfl, (lb11.ex e1').ex e2', svS, ndS, .inr ⟨y, srtL LT, rfl, lb2, libOk_st (srt_v ok2.v), (srt_v ok2.v).nd, by rw [es2, eqL_self ndS svS]⟩, fun H' e' => q' H' (e2'.trans e')⟩⟩
  have alk2 : Ev (tCall (spAlk C) [] E0 (tCons (tVar 6) (tCons (tVar 6) (tCons (tC (.bl true)) tNil)))) [some (.ref a), some (.int (i : Int)), some (.ref p), some (.ref D), some (.ref lb), some (.ref Pd), some (.ref x), some (.ref Td), y8, y9, y10'] H11 (.bl true) := fun H1' e1' Q' q' =>
    ⟨.ref x, rfl, .ref x, rfl, x, .ref x, true, srtL L, rfl, lb11.ex e1', svS, ndS, .inr ⟨x, srtL L, rfl, lb11.ex e1', svS, ndS, by rw [eqL_self ndS svS]⟩, fun H' e' => q' H' e'⟩
  refine q_when (b := false) (et_is (et_or (a := false) (et_is (et_not (et_B alk1)) rfl) fun _ => et_is (et_not (et_B alk2)) rfl) rfl) (fun z => nomatch z) (fun _ H12 e12 => ?_)
  have r12 := r11.trans (Drew.of r11.pot e12)
  have lb12 := lb11.ex e12
  have dD12 := Dt.ex e12 dD11
  -- another library
  refine q_asgAny ⟨.ref p, rfl, .ref D, rfl, p, D, L, rfl, r12.pot, dD12, ok, fun Od L3 H13 zOd r13 hOd ok3 nms3 => ?_⟩
  have lb13 := lb12.drew r13 r12.pot svS
  have dD13 := lib_drew r13 r12.pot sv dD12
  have rr13 := r12.trans r13
  show tSeq _ _ _ [some (.ref a), some (.int (i : Int)), some (.ref p), some (.ref D), some (.ref lb), some (.ref Pd), some (.ref x), some (.ref Td), some (.ref Od), y9, y10'] H13
  have alk3 : Ev (tCall (spAlk C) [] E0 (tCons (tVar 6) (tCons (tMake C (spLInit C) [] E0 (tCons (tVar 8) tNil)) (tCons (tOp rEqLK (tVar 8) (tVar 3)) tNil)))) [some (.ref a), some (.int (i : Int)), some (.ref p), some (.ref D), some (.ref lb), some (.ref Pd), some (.ref x), some (.ref Td), some (.ref Od), y9, y10'] H13 (.bl true) := fun H1' e1' Q' q' => by
    refine ⟨.ref x, rfl, evLb_make (ev_var rfl) hOd ok3 H1' e1' _ fun y H2' e2' lb2 => ?_⟩
    have e12' := e1'.trans e2'
    obtain ⟨ka, ha1, ha2⟩ := dt_dct (Dt.ex e12' hOd)
    obtain ⟨kb, hb1, hb2⟩ := dt_dct (Dt.ex e12' dD13)
    refine ⟨.ref Od, rfl, .ref D, rfl, Od, D, ka, kb, L3, L, rfl, rfl, ha1, hb1, ha2, hb2, libOk_st ok3.v, sv, ok3.v.nd, ?_⟩
    exact ⟨x, .ref y, eqL L3 L, srtL L, rfl, lb13.ex e12', svS, ndS, .inr ⟨y, srtL L3, rfl, lb2, libOk_st (srt_v ok3.v), (srt_v ok3.v).nd, eq_srt v ok3.v⟩, fun H' e' => q' H' (e2'.trans e')⟩
  refine q_when (b := false) (et_is (et_not (et_B alk3)) rfl) (fun z => nomatch z) (fun _ H14 e14 => ?_)
  have r14 := rr13.trans (Drew.of rr13.pot e14)
  have lb14 := lb13.ex e14
  have dD14 := Dt.ex e14 dD13
  -- other values
  obtain ⟨dx, dd, kvx, o1, o2, o3⟩ := lb14.ob
  obtain ⟨kv14, hk14, hkv14⟩ := dt_dct dD14
  have sm1 := smallL_of v lP
  have things : EvD (tLst (tCons (tC .non) (tCons (tC (.int 0)) (tCons (tC (.str "")) (tCons (tTup tNil) (tCons (tLst tNil) (tCons tDNewK (tCons (tCB (fun xs H Q => ∃ (a : Addr) (kvs : List (Key × V)), xs = [.ref a] ∧ Rd H a (.dK kvs) ∧ ∀ p, H p = none → Q (.ref p) (upd H p (.dK kvs))) (tCons (tVar 3) tNil)) (tCons (tCB (rReprO C (spLRepr C)) (tCons (tVar 6) tNil)) (tCons (tCB rSrtD (tCons (tVar 3) tNil)) tNil))))))))))
      [some (.ref a), some (.int (i : Int)), some (.ref p), some (.ref D), some (.ref lb), some (.ref Pd), some (.ref x), some (.ref Td), some (.ref Od), y9, y10'] H14 (.list (oddL L)) := by
    have dc : EvD (tCB (fun xs H Q => ∃ (a : Addr) (kvs : List (Key × V)), xs = [.ref a] ∧ Rd H a (.dK kvs) ∧ ∀ p, H p = none → Q (.ref p) (upd H p (.dK kvs))) (tCons (tVar 3) tNil)) [some (.ref a), some (.int (i : Int)), some (.ref p), some (.ref D), some (.ref lb), some (.ref Pd), some (.ref x), some (.ref Td), some (.ref Od), y9, y10'] H14 (libD L) := fun H1' e1' Q' q' => ⟨.ref D, rfl, D, kv14, rfl, .inl (e1' _ _ hk14), fun p' zp' => q' _ _ (Ex.new zp') (.dct upd_same (DtKv.ex (e1'.trans (Ex.new zp')) hkv14))⟩
    have rc : Ev (tCB (rReprO C (spLRepr C)) (tCons (tVar 6) tNil)) [some (.ref a), some (.int (i : Int)), some (.ref p), some (.ref D), some (.ref lb), some (.ref Pd), some (.ref x), some (.ref Td), some (.ref Od), y9, y10'] H14 (.str (reprL (srtL L))) := fun H1' e1' Q' q' => ⟨.ref x, rfl, x, dx, _, rfl, e1' _ _ o1, x, srtL L, rfl, lb14.ex e1', sm1.1, sm1.2, fun H2' e2' => ⟨_, rfl, q' H2' e2'⟩⟩
    exact evd_lst (evda_cons evd_non (evda_cons (evd_int (i := 0)) (evda_cons (evd_str (x := "")) (evda_cons (evd_tup evda_nil (by show 0 ≤ 1000; decide)) (evda_cons (evd_lst evda_nil (by show 0 ≤ 1000; decide)) (evda_cons evd_dnew (evda_cons dc (evda_cons (evd_of rc (.str _)) (evda_cons (evd_ofL (el_srtD (ev_var rfl) dD14 l40) fun _ => dts_strs _) evda_nil))))))))) (by show 9 ≤ 1000; decide)
  show tFor _ _ _ _ [some (.ref a), some (.int (i : Int)), some (.ref p), some (.ref D), some (.ref lb), some (.ref Pd), some (.ref x), some (.ref Td), some (.ref Od), y9, y10'] H14
  refine s_forD (K := K) things (fun σ' => ∃ y9, σ' = [some (.ref a), some (.int (i : Int)), some (.ref p), some (.ref D), some (.ref lb), some (.ref Pd), some (.ref x), some (.ref Td), some (.ref Od), y9, y10']) ⟨_, rfl⟩ (fun Ha ea u du σ' H' hm e' hu' hP => ?_) (fun σ' H15 hP e15 => ?_)
  · obtain ⟨y9', rfl⟩ := hP
    show tIfS _ _ _ _ [some (.ref a), some (.int (i : Int)), some (.ref p), some (.ref D), some (.ref lb), some (.ref Pd), some (.ref x), some (.ref Td), some (.ref Od), some u, y10'] H'
    have nb : ∀ b, du ≠ .bool b := fun b e => by
      rw [e] at hm
      simp only [oddL, List.mem_cons, List.not_mem_nil, or_false] at hm
      rcases hm with h | h | h | h | h | h | h | h | h <;> exact nomatch h
    have alk : Ev (tCall (spAlk C) [] E0 (tCons (tVar 6) (tCons (tVar 9) (tCons (tC (.bl false)) tNil)))) [some (.ref a), some (.int (i : Int)), some (.ref p), some (.ref D), some (.ref lb), some (.ref Pd), some (.ref x), some (.ref Td), some (.ref Od), some u, y10'] H' (.bl true) := fun H1' e1' Q' q' =>
      ⟨.ref x, rfl, u, rfl, x, u, false, srtL L, rfl, ((lb14.ex ea).ex e').ex e1', svS, ndS, .inl ⟨othB_dt (Dt.ex e1' hu') nb, rfl⟩, fun H2' e2' => q' H2' e2'⟩
    exact s_when (b := false) (et_is (et_not (et_B alk)) rfl) (fun z => nomatch z) (fun _ H2' e2' => ⟨⟨_, rfl⟩, e'.trans e2'⟩)
  obtain ⟨y9', rfl⟩ := hP
  -- pairs
  have r15 := r14.trans (Drew.of r14.pot e15)
  refine ⟨.ref p, rfl, .ref D, rfl, p, D, L, rfl, r15.pot, Dt.ex e15 dD14, ok, lP, fun H16 r16 => ⟨true, rfl, ?_⟩⟩
  show if (!true) = true then _ else _
  rw [if_neg (by decide)]
  exact ⟨⟨_, _, _, _, _, _, _, _, _, _, rfl⟩, exD (et.trans e1) (fresh_back et zp) (r15.trans r16)⟩
end
end Cr
/-! several clauses 'except X as n' -/
/-! a lambda handed to a def that tries it: wishes at the slots; heaps but their tables -/
namespace Cr
open PySem PySem.Spec PyProof.Rows L2 Evl
/-! ### heaps without their tables -/
def NoT (H : Hp) : Prop := ∀ a ps, H a ≠ some (.tbl ps)
theorem NoT.ex {H : Hp} (n : NoT H) {H1 H2 : Hp} (e : LamX.ExtN H1 H2) (h : Ex H H1) : Ex H H2 := fun a o z => e a o (h a o z) fun ps q => n a ps (by rw [← q]; exact z)
/-! ### the callee calls the lambda, what is raised wished for at its slots -/
end Cr
/-! the law's call where defs of the text make code objects, and nothing is shown around -/
/-! k14: what the top has left, gathered -/
namespace Cr
open PySem PySem.Spec PyProof.Rows L2 Evl
/-- the classmethod of, as the head tells it -/
def OfK (K : PySem.W.Frag) (C : Addr) : Prop := ∃ (q f : Addr) (od an : Option Addr) (sl : Array (Option Value)) (oc kV dc pm cd ct : Value) (rest : List Value),
  PySem.W.findCls K (.ref C) (.type "type") "of" = some (.get (.builtin "classmethod.__get__") (.ref q) .none (.ref C)) ∧ PySem.W.recIn K q "classmethod" = some (.ref f :: rest) ∧ PySem.W.fnIn K f = true ∧
  K.lookup f = some ⟨oc, od, .func (PySem.W.fnOf "of" "Library.of" (defArgs sLOf) (defBody sLOf) (defScope sLOf) .none kV dc pm an cd ct), sl⟩ ∧ PySem.W.codeIn K cd "Library.of" = true ∧ PySem.W.keepIn K (.ref f) = true
theorem ofK {K : PySem.W.Frag} {C q f : Addr} {od an : Option Addr} {sl : Array (Option Value)} {oc kV dc pm cd ct : Value} {rest : List Value} (a : PySem.W.findCls K (.ref C) (.type "type") "of" = some (.get (.builtin "classmethod.__get__") (.ref q) .none (.ref C))) (r : PySem.W.recIn K q "classmethod" = some (.ref f :: rest)) (i : PySem.W.fnIn K f = true)
    (l : K.lookup f = some ⟨oc, od, .func (PySem.W.fnOf "of" "Library.of" (defArgs sLOf) (defBody sLOf) (defScope sLOf) .none kV dc pm an cd ct), sl⟩) (c : PySem.W.codeIn K cd "Library.of" = true) (k : PySem.W.keepIn K (.ref f) = true) : OfK K C := ⟨q, f, od, an, sl, oc, kV, dc, pm, cd, ct, rest, a, r, i, l, c, k⟩
theorem hasN_mk {P : Program} {w : World} {K : PySem.W.Frag} {h : Heap} {mg : Str → Option Value} {base : Heap} {k : Nat} {x : Str} {st : Stmt} {ps : List Str} {sp : Sp} (X : K.In h) (G : h.Ns mainGlobals mg) (d : DefAt K x st)
    (hb : ∀ (kV doc pm : Value) (an : Option Addr) (cdv ct : Value) (us : List Value), us.length = ps.length → bindArgs (PySem.W.fnOf x x (defArgs st) (defBody st) (defScope st) .none kV doc pm an cdv ct) ⟨us, []⟩ = pure (ps.zip us))
    (ok : ∀ f fd, Fun K x x st f fd → FnOk P w K mg base (L2N.CX P w) k f fd ps sp) : HasN P w K mg base k x ps sp := by
  obtain ⟨f, od, an, sl, oc, kV, dc, pm, cd, ct, a, l, c, kp⟩ := d
  have F := fun_mk (st := st) l c kp
  exact ⟨⟨f, _, ok f _ F, F.binds hb, kp, PySem.W.mg_of X G a⟩⟩
theorem all_mk {P : Program} {w : World} {K : PySem.W.Frag} {h : Heap} {mg : Str → Option Value} {fa aV dS CP CLb CU CD CT C : Addr} {tL tS tM : Tok} {n : Nat} (X : K.In h) (G : h.Ns mainGlobals mg) (hfa : mg "law" = some (.ref fa)) (B : Blt mg)
    (v1 : PySem.W.nsIn K mainGlobals "VARIABLES" = some (some (.ref aV))) (v2 : KTup K aV (vars4.map V.str)) (v3 : PySem.W.nsIn K mainGlobals "LONGEST_NAME" = some (some (.int 8 tL))) (v4 : PySem.W.nsIn K mainGlobals "MOST_STEPS" = some (some (.int 30 tS))) (v8 : PySem.W.nsIn K mainGlobals "MOST_MODULES" = some (some (.int 40 tM)))
    (v6 : PySem.W.nsIn K mainGlobals "SHAPES" = some (some (.ref dS))) (S' : ∃ es, Shapes K w dS es n)
    (c0 : PySem.W.nsIn K mainGlobals "InvalidProgram" = some (some (.ref CP))) (e0 : ErrK P K CP xbV "InvalidProgram.__init__" "position" sInitP) (xP : ExcC K CP) (sP : PySem.W.findIn K (.ref CP) "position" = some none) (mP : PySem.W.exmOne K (.ref CP) (.ref CP) = some true)
    (c1 : PySem.W.nsIn K mainGlobals "InvalidLibrary" = some (some (.ref CLb))) (e1 : ErrK P K CLb xbV "InvalidLibrary.__init__" "module" sIInvalidLibrary) (xB : ExcC K CLb) (sB : PySem.W.findIn K (.ref CLb) "module" = some none) (sB2 : PySem.W.findIn K (.ref CLb) "position" = some none) (mB : PySem.W.exmOne K (.ref CLb) (.ref CLb) = some true)
    (c2 : PySem.W.nsIn K mainGlobals "UnknownModule" = some (some (.ref CU))) (e2 : ErrK P K CU xbL "UnknownModule.__init__" "value" sIUnknownModule) (xU : ExcC K CU) (sU : PySem.W.findIn K (.ref CU) "value" = some none) (mU : PySem.W.exmOne K (.ref CU) (.ref CU) = some true)
    (c3 : PySem.W.nsIn K mainGlobals "NoNeed" = some (some (.ref CD))) (c4 : PySem.W.nsIn K mainGlobals "UnknownThread" = some (some (.ref CT)))
    (kUL : PySem.W.kitOne K (.ref CU) (.type "LookupError") = some true) (kUD : PySem.W.kitOne K (.ref CU) (.ref CD) = some false) (kUT : PySem.W.kitOne K (.ref CU) (.ref CT) = some false) (kUK : PySem.W.kitOne K (.ref CU) (.type "KeyError") = some false)
    (cF : PySem.W.nsIn K mainGlobals "Library" = some (some (.ref C))) (kF : Cls K C) (mF : PySem.W.makesIn K C = true) (pF : PySem.W.keepIn K (.ref C) = true) (nN : NoAttr K C "initializers")
    (dCop : DefAt K "copied" sCopied) (dInt : DefAt K "is_integer" sIsInteger) (dName : DefAt K "is_name" sIsName) (dVar : DefAt K "is_variable" sIsVariable) (dBW : DefAt K "bare_word" sBareW) (dItem : DefAt K "is_item" sIsItem) (dBI : DefAt K "bare_item" sBareI) (dStep : DefAt K "is_step" sIsStep)
    (dSM : DefAt K "step_modules" sSM) (dBef : DefAt K "is_step_before" sBefore) (dChk : DefAt K "check_steps" sSteps) (dBP : DefAt K "bare_program" sBareP) (dCp : DefAt K "check_pair" sLPair) (dCps : DefAt K "check_pairs" sLPairs)
    (mI : MethAt K C "__init__" "Library.__init__" sLInit) (mMo : MethAt K C "modules" "Library.modules" sLMods) (mHa : MethAt K C "has_module" "Library.has_module" sLHas) (mIn : MethAt K C "initializer" "Library.initializer" sLIni) (mLen : MethAt K C "__len__" "Library.__len__" sLLen) (mRe : MethAt K C "__repr__" "Library.__repr__" sLRepr)
    (mEq : MethAt K C "__eq__" "Library.__eq__" sLEq) (qn : PySem.W.findIn K (.ref C) "__ne__" = some (some (.builtin "object.__ne__"))) (qo : PySem.W.mroIn K C (.type "object") = some true) (q1 : PySem.W.subIn K (.ref C) (.type "NoneType") = some false) (q2 : PySem.W.subIn K (.ref C) (.type "int") = some false) (q3 : PySem.W.subIn K (.ref C) (.type "str") = some false) (q4 : PySem.W.subIn K (.ref C) (.type "list") = some false) (q5 : PySem.W.subIn K (.ref C) (.type "tuple") = some false) (q6 : PySem.W.subIn K (.ref C) (.type "dict") = some false)
    (w1 : PySem.W.findIn K (.ref C) "__class__" = some (some (.builtin "object.__class__"))) (w2 : PySem.W.specialIn K (.builtin "object.__class__") "__get__" = some (some (.builtin "getset_descriptor.__get__"))) (w3 : PySem.W.takesIn K (.builtin "object.__class__") = some true) (w4 : PySem.W.kitOne K (.ref C) (.ref C) = some true)
    (x1 : PySem.W.kitOne K (.type "NoneType") (.ref C) = some false) (x2 : PySem.W.kitOne K (.type "int") (.ref C) = some false) (x3 : PySem.W.kitOne K (.type "str") (.ref C) = some false) (x4 : PySem.W.kitOne K (.type "list") (.ref C) = some false) (x5 : PySem.W.kitOne K (.type "tuple") (.ref C) = some false) (x6 : PySem.W.kitOne K (.type "dict") (.ref C) = some false)
    (r1 : PySem.W.readsIn K C (.type "type") = true) (r2 : PySem.W.specialIn K (.ref C) "__getattribute__" = some (some (.builtin "type.__getattribute__"))) (mO : OfK K C)
    (dPot : DefAt K "_law_pot" sPot) (dDraw : DefAt K "_law_draw" sDraw) (dPick : DefAt K "_law_choice" sChoice) (dWd : DefAt K "_law_word" sWord1) (dWs : DefAt K "_law_words" sWords1) (dMix : DefAt K "_law_mixed" sMixed) (dIn : DefAt K "_law_integer" sInt1) (dLo : DefAt K "_law_local_step" sLoc) (dRd : DefAt K "_law_read_step" sRead) (dGe : DefAt K "_law_program" sGen) (dMo : DefAt K "_law_modules" sLMo)
    (dSh : DefAt K "_law_shown" sShL) (dAl : DefAt K "_law_alike" sAlk) (dOp : DefAt K "_law_of_pairs" sOfP) (dPr : DefAt K "_law_pairs_right" sPR) (dFx : DefAt K "_law_fixed_pairs_right" sFix) (dMi : DefAt K "_law_missing" sMis) (dTr : DefAt K "_law_told_right" sTR) (dUn : DefAt K "_law_unlike" sUnl) (dLaw : DefAt K "law" sLaw) :
    ∃ fd : FuncData, (∀ (s : Shared) (v : Value), BindsTo s fd ⟨[v], []⟩ [("_law_script", v)]) ∧ ∀ base : Heap, K.In base → base.Ns mainGlobals mg → FnG P w K mg base CX0 13 fa fd ["_law_script"] (spLaw K) := by
  obtain ⟨es, S⟩ := S'
  have gV := PySem.W.mg_of X G v1
  have gL := PySem.W.mg_of X G v3
  have gO := PySem.W.mg_of X G v4
  have gM := PySem.W.mg_of X G v8
  have gS := PySem.W.mg_of X G v6
  have gP := PySem.W.mg_of X G c0
  have T : LbC K mg C := ⟨kF, nN, PySem.W.mg_of X G cF⟩
  have TB : ErrLb K mg CLb := ⟨PySem.W.mg_of X G c1, xB, sB, sB2, mB⟩
  have TU : ErrU K mg CU CD CT := ⟨PySem.W.mg_of X G c2, PySem.W.mg_of X G c3, PySem.W.mg_of X G c4, xU, sU, mU, kUL, kUD, kUT, kUK⟩
  obtain ⟨fL, od, an, sl, oc, kV, dc, pm, cd, ct, aL, lL, cL, kL⟩ := dLaw
  have el := hfa.symm.trans (PySem.W.mg_of X G aL)
  cases el
  have FL := fun_mk (st := sLaw) lL cL kL
  refine ⟨PySem.W.fnOf "law" "law" (defArgs sLaw) (defBody sLaw) (defScope sLaw) .none kV dc pm an cd ct, fun s v => .of_eq rfl, fun base _ _ => ?_⟩
  have cp : HasO P w K mg base 3 "copied" ["value"] (spCopied 3) := copied_all X G dCop B 3
  obtain ⟨fE, fdE, EP⟩ := errAt_of (mg := mg) X G c0 e0
  obtain ⟨fB, fdB, EB⟩ := errAt_of (mg := mg) X G c1 e1
  obtain ⟨fU, fdU, EU⟩ := errAt_of (mg := mg) X G c2 e2
  have MP : MkNum P w K mg base CP "InvalidProgram" "position" "position" := mkP EP B
  have ML : MkLib P w K mg base 3 CLb := by
    obtain ⟨f, od, an, sl, oc, kV, dc, pm, cd, ct, a, l, c, kp⟩ := dCop
    have F := fun_mk (st := sCopied) l c kp
    exact mkLib_of EB sB2 B cp (ok_copiedH (k := 0) F B) (F.binds (fun _ _ _ _ _ _ us hl => match us, hl with | [_], _ => rfl)) kp (PySem.W.mg_of X G a)
  have MU : MkErr P w K mg base 4 CU "UnknownModule" 1 (spInitC CU "value" 3) := mkErr_of EU rfl (ok_iUnknownModule EU B cp) (fun _ _ _ _ _ _ _ us hl => match us, hl with | [_, _], _ => rfl)
  -- the program's defs
  have hInt : HasO P w K mg base 1 "is_integer" ["value"] (spD isInteger) := hasO_mk X G dInt (fun _ _ _ _ _ _ us hl => match us, hl with | [_], _ => rfl) fun f fd F => ok_isInteger F B
  have hName : HasO P w K mg base 1 "is_name" ["value"] (spD isName) := hasO_mk X G dName (fun _ _ _ _ _ _ us hl => match us, hl with | [_], _ => rfl) fun f fd F => ok_isName F B gL
  have hVar : HasO P w K mg base 1 "is_variable" ["value"] (spD isVar) := hasO_mk X G dVar (fun _ _ _ _ _ _ us hl => match us, hl with | [_], _ => rfl) fun f fd F => ok_isVar F B gV v2
  have hBW : HasO P w K mg base 1 "bare_word" ["word"] spBareW := hasO_mk X G dBW (fun _ _ _ _ _ _ us hl => match us, hl with | [_], _ => rfl) fun f fd F => ok_bareW F
  have hItem : HasO P w K mg base 2 "is_item" ["value", "kind"] spItem := hasO_mk X G dItem (fun _ _ _ _ _ _ us hl => match us, hl with | [_, _], _ => rfl) fun f fd F => by
    obtain ⟨f1, g1, G1, b1, k1, m1⟩ := hInt.ex
    obtain ⟨f2, g2, G2, b2, k2, m2⟩ := hVar.ex
    obtain ⟨f3, g3, G3, b3, k3, m3⟩ := hName.ex
    exact ok_isItem F G1 b1 k1 m1 G2 b2 k2 m2 G3 b3 k3 m3
  have hBI : HasO P w K mg base 2 "bare_item" ["item"] spBareI := hasO_mk X G dBI (fun _ _ _ _ _ _ us hl => match us, hl with | [_], _ => rfl) fun f fd F => ok_bareI F B hBW
  have hStep : HasO P w K mg base 3 "is_step" ["value"] (spD isStep) := hasO_mk X G dStep (fun _ _ _ _ _ _ us hl => match us, hl with | [_], _ => rfl) fun f fd F => by
    obtain ⟨f1, g1, G1, b1, k1, m1⟩ := hItem.ex
    exact ok_isStep F B gS S G1 b1 k1 m1
  have hSM : HasO P w K mg base 1 "step_modules" ["step"] spSM := hasO_mk X G dSM (fun _ _ _ _ _ _ us hl => match us, hl with | [_], _ => rfl) fun f fd F => ok_sm F B gS S
  have hBef : HasO P w K mg base 4 "is_step_before" ["value", "steps_after", "modules"] spBefore := hasO_mk X G dBef (fun _ _ _ _ _ _ us hl => match us, hl with | [_, _, _], _ => rfl) fun f fd F => ok_before F B hStep (hSM.up (by decide))
  have hChk : HasE P w K mg base 5 "check_steps" ["value", "is_main", "modules"] (spSteps CP) := hasE_mk X G dChk (fun _ _ _ _ _ _ us hl => match us, hl with | [_, _, _], _ => rfl) fun f fd F => ok_steps F B MP (by decide) gO hBef
  have hChkN : HasN P w K mg base 5 "check_steps" ["value", "is_main", "modules"] (spSteps CP) := hasN_mk X G dChk (fun _ _ _ _ _ _ us hl => match us, hl with | [_, _, _], _ => rfl) fun f fd F => ok_stepsN F B MP (by decide) gO hBef
  have hBP : HasO P w K mg base 3 "bare_program" ["program"] spBareP := hasO_mk X G dBP (fun _ _ _ _ _ _ us hl => match us, hl with | [_], _ => rfl) fun f fd F => ok_bareP F B hBI
  have hCp : HasO P w K mg base 6 "check_pair" ["key", "value", "names"] spLPair := hasO_mk X G dCp (fun _ _ _ _ _ _ us hl => match us, hl with | [_, _, _], _ => rfl) fun f fd F => ok_lpair F (hName.up (by decide)) hChk
  have hCps : HasO P w K mg base 7 "check_pairs" ["pairs"] spLPairs := hasO_mk X G dCps (fun _ _ _ _ _ _ us hl => match us, hl with | [_], _ => rfl) fun f fd F => ok_lpairs F B gM (hName.up (by decide)) hCp
  have hCpG : HasE P w K mg base 6 "check_pair" ["key", "value", "names"] (spLPairG CLb 3) := hasE_mk X G dCp (fun _ _ _ _ _ _ us hl => match us, hl with | [_, _, _], _ => rfl) fun f fd F => ok_lpairG (k := 5) F ML gP mP xP sP (by decide) (by decide) (hName.up (by decide)) hChkN
  have hCpsT : HasE P w K mg base 7 "check_pairs" ["pairs"] (spLPrsT CLb 3) := hasE_mk X G dCps (fun _ _ _ _ _ _ us hl => match us, hl with | [_], _ => rfl) fun f fd F => ok_lprsT (k := 6) F B ML gM (by decide) (hName.up (by decide)) hCpG
  -- the library
  obtain ⟨fI, fdI, MkI, GI, bI⟩ : ∃ fI fdI, Mk K C fI ∧ FnOk P w K mg base CX0 8 fI fdI ["self", "modules"] (spLInit C) ∧ Binds K fdI ["self", "modules"] [] := by
    obtain ⟨f, od, an, sl, oc, kV, dc, pm, cd, ct, a, i, l, c, kp, t⟩ := mI
    have F := fun_mk (st := sLInit) l c kp
    exact ⟨f, _, ⟨mF, a, i, pF⟩, ok_linit F B T hCps (hBW.up (by decide)) (hBP.up (by decide)), F.binds (fun _ _ _ _ _ _ us hl => match us, hl with | [_, _], _ => rfl)⟩
  have hMo : HasM P w K mg base CX0 1 C "modules" ["self"] (spLMods C) := hasM_mk mMo (fun _ _ _ _ _ _ us hl => match us, hl with | [_], _ => rfl) fun f fd F => ok_lmods F B T
  have hHa : HasM P w K mg base CX0 2 C "has_module" ["self", "value"] (spLHas C) := hasM_mk mHa (fun _ _ _ _ _ _ us hl => match us, hl with | [_, _], _ => rfl) fun f fd F => ok_lhas F T hName
  have hIni : ∀ j, 5 ≤ j → HasIni P w K mg base (j + 1) 3 C CU := fun j hj => ⟨(hasM_mk mIn (fun _ _ _ _ _ _ us hl => match us, hl with | [_, _], _ => rfl) fun f fd F => ok_liniG (k := j) F B T MU (by omega) (hHa.up (by omega)) : HasM P w K mg base (L2.CX P w) (j + 1) C "initializer" ["self", "module"] (spLIniG C CU 3)).ex⟩
  have hLen : ∀ j, HasLenL P w K mg base (j + 1) C := fun j => by
    obtain ⟨f, od, an, sl, oc, kV, dc, pm, cd, ct, a, i, l, c, kp, t⟩ := mLen
    have F := fun_mk (st := sLLen) l c kp
    exact ⟨⟨f, _, ok_llen (k := j) F B T, F.binds (fun _ _ _ _ _ _ us hl => match us, hl with | [_], _ => rfl), a, t⟩⟩
  have hRe : ∀ j, HasReprL P w K mg base (j + 1) C := fun j => by
    obtain ⟨f, od, an, sl, oc, kV, dc, pm, cd, ct, a, i, l, c, kp, t⟩ := mRe
    have F := fun_mk (st := sLRepr) l c kp
    exact ⟨⟨f, _, ok_lrepr (k := j) F T, F.binds (fun _ _ _ _ _ _ us hl => match us, hl with | [_], _ => rfl), a, i⟩⟩
  obtain ⟨fQ, fdQ, GQ, bQ, TQ⟩ : ∃ fQ fdQ, (∀ j, FnOk P w K mg base CX0 (j + 1) fQ fdQ ["self", "other"] (spLEq C)) ∧ Binds K fdQ ["self", "other"] [] ∧ EqC K C fQ := by
    obtain ⟨f, od, an, sl, oc, kV, dc, pm, cd, ct, a, i, l, c, kp, t⟩ := mEq
    have F := fun_mk (st := sLEq) l c kp
    exact ⟨f, _, fun j => ok_leq (k := j) F B T ⟨kF, w1, w2, w3, qo, w4⟩ ⟨x1, x2, x3, x4, x5, x6⟩, F.binds (fun _ _ _ _ _ _ us hl => match us, hl with | [_, _], _ => rfl), ⟨a, i, qn, qo, q1, q2, q3, q4, q5, q6⟩⟩
  have hO : OfL P w K mg base 10 3 C CLb := by
    obtain ⟨q, f, od, an, sl, oc, kV, dc, pm, cd, ct, rest, a, r, i, l, c, k⟩ := mO
    have F := fun_mk (st := sLOf) l c k
    exact ⟨⟨.type "type", q, f, ⟨r1, r2⟩, ⟨a, ⟨rest, r⟩, i⟩, ok_lof (k := 9) F B ML MkI GI bI (by decide) (by decide) (hCpsT.up (by decide))⟩⟩
  -- the law's defs
  have lPot : Has P w K mg base 1 "_law_pot" ["_law_script", "_law_index"] (spPot K) := has_mk X G dPot (fun _ _ _ _ _ _ us hl => match us, hl with | [_, _], _ => rfl) fun f fd F => ok_pot F B
  have lDraw : Has P w K mg base 1 "_law_draw" ["_law_pot_here", "_law_bound"] spDraw := has_mk X G dDraw (fun _ _ _ _ _ _ us hl => match us, hl with | [_, _], _ => rfl) fun f fd F => ok_draw F B
  have lPick : Has P w K mg base 2 "_law_choice" ["_law_pot_here", "_law_options"] spChoice := has_mk X G dPick (fun _ _ _ _ _ _ us hl => match us, hl with | [_, _], _ => rfl) fun f fd F => ok_choice F B lDraw
  have lWd : Has P w K mg base 2 "_law_word" ["_law_pot_here", "_law_used"] spWord := has_mk X G dWd (fun _ _ _ _ _ _ us hl => match us, hl with | [_, _], _ => rfl) fun f fd F => ok_word1 F B lDraw
  have lWs : Has P w K mg base 3 "_law_words" ["_law_pot_here", "_law_number"] spWords := has_mk X G dWs (fun _ _ _ _ _ _ us hl => match us, hl with | [_, _], _ => rfl) fun f fd F => ok_words1 F B lWd
  have lMix : Has P w K mg base 2 "_law_mixed" ["_law_pot_here", "_law_options"] spMixed := has_mk X G dMix (fun _ _ _ _ _ _ us hl => match us, hl with | [_, _], _ => rfl) fun f fd F => ok_mixed F B lDraw
  have lIn : Has P w K mg base 2 "_law_integer" ["_law_pot_here"] spInteger := has_mk X G dIn (fun _ _ _ _ _ _ us hl => match us, hl with | [_], _ => rfl) fun f fd F => ok_int1 F B lDraw
  have lLo : Has P w K mg base 3 "_law_local_step" ["_law_pot_here", "_law_room", "_law_labels", "_law_is_main"] spLoc := has_mk X G dLo (fun _ _ _ _ _ _ us hl => match us, hl with | [_, _, _, _], _ => rfl) fun f fd F => ok_loc F B (lDraw.up (by decide)) lPick lIn
  have lRd : Has P w K mg base 3 "_law_read_step" ["_law_pot_here", "_law_targets", "_law_labels", "_law_earlier"] spRead := has_mk X G dRd (fun _ _ _ _ _ _ us hl => match us, hl with | [_, _, _, _], _ => rfl) fun f fd F => ok_read F B lPick
  have lGe : Has P w K mg base 4 "_law_program" pGen spGen := has_mk X G dGe (fun _ _ _ _ _ _ us hl => match us, hl with | [_, _, _, _, _], _ => rfl) fun f fd F => ok_gen F B (lDraw.up (by decide)) (lPick.up (by decide)) lRd lLo
  have lMo : Has P w K mg base 5 "_law_modules" pLMo spLMo := has_mk X G dMo (fun _ _ _ _ _ _ us hl => match us, hl with | [_, _, _, _], _ => rfl) fun f fd F => ok_lmo F B (lDraw.up (by decide)) (lWs.up (by decide)) (lMix.up (by decide)) lGe
  have lSh : Has P w K mg base 1 "_law_shown" ["_law_modules_here"] spShL := has_mk X G dSh (fun _ _ _ _ _ _ us hl => match us, hl with | [_], _ => rfl) fun f fd F => ok_shl (k := 0) F B
  have lAl : HasO P w K mg base 3 "_law_alike" ["_law_one", "_law_other", "_law_due"] (spAlk C) := hasO_mk X G dAl (fun _ _ _ _ _ _ us hl => match us, hl with | [_, _, _], _ => rfl) fun f fd F => ok_alk (k := 1) F B ⟨⟨fQ, fdQ, GQ 0, bQ, TQ⟩⟩
  have lOp : HasO P w K mg base 11 "_law_of_pairs" ["_law_pairs"] (spOfP C 3) := hasO_mk X G dOp (fun _ _ _ _ _ _ us hl => match us, hl with | [_], _ => rfl) fun f fd F => ok_ofp (k := 10) F B T hO TB
  have lMi : Has P w K mg base 7 "_law_missing" ["_law_made", "_law_thing"] (spMis C 3) := has_mk X G dMi (fun _ _ _ _ _ _ us hl => match us, hl with | [_, _], _ => rfl) fun f fd F => ok_mis (k := 6) F B T TU (hIni 5 (by decide))
  have lTr : Has P w K mg base 9 "_law_told_right" ["_law_made", "_law_modules_here"] (spTR C) := has_mk X G dTr (fun _ _ _ _ _ _ us hl => match us, hl with | [_, _], _ => rfl) fun f fd F => ok_told (k := 7) (n := 3) F B T (by decide) (lSh.up (by decide)) lMi (hMo.up (by decide)) (hHa.up (by decide)) (hIni 6 (by decide)) (hLen 6) (hRe 6)
  have lUn : Has P w K mg base 3 "_law_unlike" ["_law_pot_here", "_law_modules_here"] spUnl := has_mk X G dUn (fun _ _ _ _ _ _ us hl => match us, hl with | [_, _], _ => rfl) fun f fd F => ok_unl (k := 2) F B (lDraw.up (by decide)) lPick
  have lFx : HasO P w K mg base 12 "_law_fixed_pairs_right" [] spFix := hasO_mk X G dFx (fun _ _ _ _ _ _ us hl => match us, hl with | [], _ => rfl) fun f fd F => ok_fix (k := 11) F B (by decide) lOp
  have lPr : Has P w K mg base 12 "_law_pairs_right" ["_law_pot_here", "_law_modules_here"] spPR := has_mk X G dPr (fun _ _ _ _ _ _ us hl => match us, hl with | [_, _], _ => rfl) fun f fd F => ok_pr (k := 11) (kl := 8) (j := 8) (n := 3) F B T (by decide) (lDraw.up (by decide)) (lPick.up (by decide)) (lMix.up (by decide)) lOp MkI GI bI (by decide) (GQ 7) bQ TQ (by decide) (hLen 7)
  exact ok_law (k := 12) (kl := 8) (j := 8) FL B T gM (lPot.up (by decide)) (lDraw.up (by decide)) (lMix.up (by decide)) (lMo.up (by decide)) (lTr.up (by decide)) (lAl.up (by decide)) (lUn.up (by decide)) lPr lFx MkI GI bI (by decide) (hRe 7) (by decide)
end Cr
open PySem PySem.W PyProof.Rows
set_option maxRecDepth 100000 in
set_option maxHeartbeats 0 in
theorem PySem.Challenge.cw_cycleready_k14_libraries_told_holds : PySem.Challenge.rw_cycleready_k14_libraries_told.Holds := by
  w_on; o_law; k_head; (case hw => w_witness2)
  k_fill
  refine Cr.walkG (l := PySem.Challenge.rw_cycleready_k14_libraries_told) (n := 63) (k := 13) (x := "_law_script") (sp := fun w => Cr.spLaw _) rfl (by decide) rfl ⟨rfl, by decide, by decide⟩ (fun w h Y => PySem.W.kIn_of Y) ?F (fun _ _ a ns hl _ hS => ⟨a, ns, rfl, hS, hl, fun _ => rfl⟩)
  case F =>
    intro w mg fa h KX G hmg
    have B : Cr.Blt mg := by
      constructor
      · exact PySem.W.mg_none_of KX G (by k_is)
      · exact PySem.W.mg_none_of KX G (by k_is)
      · exact PySem.W.mg_none_of KX G (by k_is)
      · exact PySem.W.mg_none_of KX G (by k_is)
      · exact PySem.W.mg_none_of KX G (by k_is)
      · exact PySem.W.mg_none_of KX G (by k_is)
      · exact PySem.W.mg_none_of KX G (by k_is)
      · exact PySem.W.mg_none_of KX G (by k_is)
      · exact PySem.W.mg_none_of KX G (by k_is)
      · exact PySem.W.mg_none_of KX G (by k_is)
      · exact PySem.W.mg_none_of KX G (by k_is)
      · exact PySem.W.mg_none_of KX G (by k_is)
      · exact PySem.W.mg_none_of KX G (by k_is)
      · exact PySem.W.mg_none_of KX G (by k_is)
      · exact PySem.W.mg_none_of KX G (by k_is)
      · exact PySem.W.mg_none_of KX G (by k_is)
      · exact PySem.W.mg_none_of KX G (by k_is)
      · exact PySem.W.mg_none_of KX G (by k_is)
      · exact PySem.W.mg_none_of KX G (by k_is)
      · exact PySem.W.mg_none_of KX G (by k_is)
      · exact PySem.W.mg_none_of KX G (by k_is)
      · exact PySem.W.mg_none_of KX G (by k_is)
      · exact PySem.W.mg_none_of KX G (by k_is)
      · exact PySem.W.mg_none_of KX G (by k_is)
      · exact PySem.W.mg_none_of KX G (by k_is)
      · exact PySem.W.mg_none_of KX G (by k_is)
    refine' Cr.all_mk (P := PySem.Challenge.pw_cycleready_k14_libraries_told) KX G hmg B ?p_v1 ?p_v2 ?p_v3 ?p_v4 ?p_v8 ?p_v6 ?p_S' ?p_c0 ?p_e0 ?p_xP ?p_sP ?p_mP ?p_c1 ?p_e1 ?p_xB ?p_sB ?p_sB2 ?p_mB ?p_c2 ?p_e2 ?p_xU ?p_sU ?p_mU ?p_c3 ?p_c4 ?p_kUL ?p_kUD ?p_kUT ?p_kUK ?p_cF ?p_kF ?p_mF ?p_pF ?p_nN ?p_dCop ?p_dInt ?p_dName ?p_dVar ?p_dBW ?p_dItem ?p_dBI ?p_dStep ?p_dSM ?p_dBef ?p_dChk ?p_dBP ?p_dCp ?p_dCps ?p_mI ?p_mMo ?p_mHa ?p_mIn ?p_mLen ?p_mRe ?p_mEq ?p_qn ?p_qo ?p_q1 ?p_q2 ?p_q3 ?p_q4 ?p_q5 ?p_q6 ?p_w1 ?p_w2 ?p_w3 ?p_w4 ?p_x1 ?p_x2 ?p_x3 ?p_x4 ?p_x5 ?p_x6 ?p_r1 ?p_r2 ?p_mO ?p_dPot ?p_dDraw ?p_dPick ?p_dWd ?p_dWs ?p_dMix ?p_dIn ?p_dLo ?p_dRd ?p_dGe ?p_dMo ?p_dSh ?p_dAl ?p_dOp ?p_dPr ?p_dFx ?p_dMi ?p_dTr ?p_dUn ?p_dLaw
    (case p_v1 => k_is)
    (case p_v2 => refine' Cr.ktup4 ?l; (case l => k_is))
    (case p_v3 => k_is)
    (case p_v4 => k_is)
    (case p_v8 => k_is)
    (case p_v6 => k_is)
    (case p_S' => refine' Cr.shapes_mk ?l ?e1 ?e2 ?e3 ?e4 ?e5 ?e6 ?e7 ?e8 ?low ?k1 ?k2 ?k3 ?k4 ?k5 ?k6 ?k7 ?k8; (case l => k_is); (case e1 => first | rfl | k_is); (case e2 => first | rfl | k_is); (case e3 => first | rfl | k_is); (case e4 => first | rfl | k_is); (case e5 => first | rfl | k_is); (case e6 => first | rfl | k_is); (case e7 => first | rfl | k_is); (case e8 => first | rfl | k_is); (case low => first | rfl | decide | k_is); (case k1 => refine' Cr.ktup2 ?l; (case l => k_is)); (case k2 => refine' Cr.ktup2 ?l; (case l => k_is)); (case k3 => refine' Cr.ktup2 ?l; (case l => k_is)); (case k4 => refine' Cr.ktup2 ?l; (case l => k_is)); (case k5 => refine' Cr.ktup3 ?l; (case l => k_is)); (case k6 => refine' Cr.ktup1 ?l; (case l => k_is)); (case k7 => refine' Cr.ktup2 ?l; (case l => k_is)); (case k8 => refine' Cr.ktup0 ?l; (case l => k_is)))
    (case p_c0 => k_is)
    (case p_e0 => refine' Cr.errK ?zi ?zl ?zc ?zs ?zt ?zp; (case zi => k_is); (case zl => k_is); (case zc => k_is); (case zs => refine' Cr.supG_mk ?xo ?xa ?xb ?xc ?xd ?xe ?xf ?xg ?xh ?xi; (case xo => refine' Cr.oexG_mk Cr.xbV_ok ?y1 ?y2 ?y3 ?y4 ?y5 ?y6; (case y1 => k_is); (case y2 => first | rfl | kernel_rfl | k_is); (case y3 => k_is); (case y4 => k_is); (case y5 => k_is); (case y6 => k_is)); (case xa => k_is); (case xb => first | rfl | k_is); (case xc => first | rfl | decide +kernel); (case xd => k_is); (case xe => k_is); (case xf => k_is); (case xg => first | ks_is | k_is); (case xh => k_is); (case xi => first | rfl | decide +kernel)); (case zt => k_is); (case zp => k_is))
    (case p_xP => refine' ⟨?h1, ?h2, ?h3, ?h4, ?h5, ?h6, ?h7, ?h8⟩; (case h1 => k_is); (case h2 => k_is); (case h3 => k_is); (case h4 => k_is); (case h5 => k_is); (case h6 => k_is); (case h7 => k_is); (case h8 => k_is))
    (case p_sP => k_is)
    (case p_mP => refine' PySem.W.exm_ref ?h1 ?h2 ?h3 ?h4; (case h1 => k_is); (case h2 => k_is); (case h3 => k_is); (case h4 => k_is))
    (case p_c1 => k_is)
    (case p_e1 => refine' Cr.errK ?zi ?zl ?zc ?zs ?zt ?zp; (case zi => k_is); (case zl => k_is); (case zc => k_is); (case zs => refine' Cr.supG_mk ?xo ?xa ?xb ?xc ?xd ?xe ?xf ?xg ?xh ?xi; (case xo => refine' Cr.oexG_mk Cr.xbV_ok ?y1 ?y2 ?y3 ?y4 ?y5 ?y6; (case y1 => k_is); (case y2 => first | rfl | kernel_rfl | k_is); (case y3 => k_is); (case y4 => k_is); (case y5 => k_is); (case y6 => k_is)); (case xa => k_is); (case xb => first | rfl | k_is); (case xc => first | rfl | decide +kernel); (case xd => k_is); (case xe => k_is); (case xf => k_is); (case xg => first | ks_is | k_is); (case xh => k_is); (case xi => first | rfl | decide +kernel)); (case zt => k_is); (case zp => k_is))
    (case p_xB => refine' ⟨?h1, ?h2, ?h3, ?h4, ?h5, ?h6, ?h7, ?h8⟩; (case h1 => k_is); (case h2 => k_is); (case h3 => k_is); (case h4 => k_is); (case h5 => k_is); (case h6 => k_is); (case h7 => k_is); (case h8 => k_is))
    (case p_sB => k_is)
    (case p_sB2 => k_is)
    (case p_mB => refine' PySem.W.exm_ref ?h1 ?h2 ?h3 ?h4; (case h1 => k_is); (case h2 => k_is); (case h3 => k_is); (case h4 => k_is))
    (case p_c2 => k_is)
    (case p_e2 => refine' Cr.errK ?zi ?zl ?zc ?zs ?zt ?zp; (case zi => k_is); (case zl => k_is); (case zc => k_is); (case zs => refine' Cr.supG_mk ?xo ?xa ?xb ?xc ?xd ?xe ?xf ?xg ?xh ?xi; (case xo => refine' Cr.oexG_mk Cr.xbL_ok ?y1 ?y2 ?y3 ?y4 ?y5 ?y6; (case y1 => k_is); (case y2 => first | rfl | kernel_rfl | k_is); (case y3 => k_is); (case y4 => k_is); (case y5 => k_is); (case y6 => k_is)); (case xa => k_is); (case xb => first | rfl | k_is); (case xc => first | rfl | decide +kernel); (case xd => k_is); (case xe => k_is); (case xf => k_is); (case xg => first | ks_is | k_is); (case xh => k_is); (case xi => first | rfl | decide +kernel)); (case zt => k_is); (case zp => k_is))
    (case p_xU => refine' ⟨?h1, ?h2, ?h3, ?h4, ?h5, ?h6, ?h7, ?h8⟩; (case h1 => k_is); (case h2 => k_is); (case h3 => k_is); (case h4 => k_is); (case h5 => k_is); (case h6 => k_is); (case h7 => k_is); (case h8 => k_is))
    (case p_sU => k_is)
    (case p_mU => refine' PySem.W.exm_ref ?h1 ?h2 ?h3 ?h4; (case h1 => k_is); (case h2 => k_is); (case h3 => k_is); (case h4 => k_is))
    (case p_c3 => k_is)
    (case p_c4 => k_is)
    (case p_kUL => kit_is)
    (case p_kUD => kit_is)
    (case p_kUT => kit_is)
    (case p_kUK => kit_is)
    (case p_cF => k_is)
    (case p_kF => refine' ⟨?h1, ?h2, ?h3, ?h4⟩; (case h1 => k_is); (case h2 => k_is); (case h3 => k_is); (case h4 => k_is))
    (case p_mF => k_is)
    (case p_pF => k_is)
    (case p_nN => show PySem.W.findIn _ _ _ = some none; k_is)
    (case p_dCop => refine' Cr.defAt ?a ?l ?c ?k; (case a => k_is); (case l => k_is); (case c => k_is); (case k => k_is))
    (case p_dInt => refine' Cr.defAt ?a ?l ?c ?k; (case a => k_is); (case l => k_is); (case c => k_is); (case k => k_is))
    (case p_dName => refine' Cr.defAt ?a ?l ?c ?k; (case a => k_is); (case l => k_is); (case c => k_is); (case k => k_is))
    (case p_dVar => refine' Cr.defAt ?a ?l ?c ?k; (case a => k_is); (case l => k_is); (case c => k_is); (case k => k_is))
    (case p_dBW => refine' Cr.defAt ?a ?l ?c ?k; (case a => k_is); (case l => k_is); (case c => k_is); (case k => k_is))
    (case p_dItem => refine' Cr.defAt ?a ?l ?c ?k; (case a => k_is); (case l => k_is); (case c => k_is); (case k => k_is))
    (case p_dBI => refine' Cr.defAt ?a ?l ?c ?k; (case a => k_is); (case l => k_is); (case c => k_is); (case k => k_is))
    (case p_dStep => refine' Cr.defAt ?a ?l ?c ?k; (case a => k_is); (case l => k_is); (case c => k_is); (case k => k_is))
    (case p_dSM => refine' Cr.defAt ?a ?l ?c ?k; (case a => k_is); (case l => k_is); (case c => k_is); (case k => k_is))
    (case p_dBef => refine' Cr.defAt ?a ?l ?c ?k; (case a => k_is); (case l => k_is); (case c => k_is); (case k => k_is))
    (case p_dChk => refine' Cr.defAt ?a ?l ?c ?k; (case a => k_is); (case l => k_is); (case c => k_is); (case k => k_is))
    (case p_dBP => refine' Cr.defAt ?a ?l ?c ?k; (case a => k_is); (case l => k_is); (case c => k_is); (case k => k_is))
    (case p_dCp => refine' Cr.defAt ?a ?l ?c ?k; (case a => k_is); (case l => k_is); (case c => k_is); (case k => k_is))
    (case p_dCps => refine' Cr.defAt ?a ?l ?c ?k; (case a => k_is); (case l => k_is); (case c => k_is); (case k => k_is))
    (case p_mI => refine' Cr.methAt ?a ?i ?l ?c ?k ?t; (case a => k_is); (case i => k_is); (case l => k_is); (case c => k_is); (case k => k_is); (case t => k_is))
    (case p_mMo => refine' Cr.methAt ?a ?i ?l ?c ?k ?t; (case a => k_is); (case i => k_is); (case l => k_is); (case c => k_is); (case k => k_is); (case t => k_is))
    (case p_mHa => refine' Cr.methAt ?a ?i ?l ?c ?k ?t; (case a => k_is); (case i => k_is); (case l => k_is); (case c => k_is); (case k => k_is); (case t => k_is))
    (case p_mIn => refine' Cr.methAt ?a ?i ?l ?c ?k ?t; (case a => k_is); (case i => k_is); (case l => k_is); (case c => k_is); (case k => k_is); (case t => k_is))
    (case p_mLen => refine' Cr.methAt ?a ?i ?l ?c ?k ?t; (case a => k_is); (case i => k_is); (case l => k_is); (case c => k_is); (case k => k_is); (case t => k_is))
    (case p_mRe => refine' Cr.methAt ?a ?i ?l ?c ?k ?t; (case a => k_is); (case i => k_is); (case l => k_is); (case c => k_is); (case k => k_is); (case t => k_is))
    (case p_mEq => refine' Cr.methAt ?a ?i ?l ?c ?k ?t; (case a => k_is); (case i => k_is); (case l => k_is); (case c => k_is); (case k => k_is); (case t => k_is))
    (case p_qn => k_is)
    (case p_qo => k_is)
    (case p_q1 => k_is)
    (case p_q2 => k_is)
    (case p_q3 => k_is)
    (case p_q4 => k_is)
    (case p_q5 => k_is)
    (case p_q6 => k_is)
    (case p_w1 => k_is)
    (case p_w2 => k_is)
    (case p_w3 => k_is)
    (case p_w4 => kit_is)
    (case p_x1 => kit_is)
    (case p_x2 => kit_is)
    (case p_x3 => kit_is)
    (case p_x4 => kit_is)
    (case p_x5 => kit_is)
    (case p_x6 => kit_is)
    (case p_r1 => k_is)
    (case p_r2 => k_is)
    (case p_mO => refine' Cr.ofK ?a ?r ?i ?l ?c ?k; (case a => k_is); (case r => k_is); (case i => k_is); (case l => k_is); (case c => k_is); (case k => k_is))
    (case p_dPot => refine' Cr.defAt ?a ?l ?c ?k; (case a => k_is); (case l => k_is); (case c => k_is); (case k => k_is))
    (case p_dDraw => refine' Cr.defAt ?a ?l ?c ?k; (case a => k_is); (case l => k_is); (case c => k_is); (case k => k_is))
    (case p_dPick => refine' Cr.defAt ?a ?l ?c ?k; (case a => k_is); (case l => k_is); (case c => k_is); (case k => k_is))
    (case p_dWd => refine' Cr.defAt ?a ?l ?c ?k; (case a => k_is); (case l => k_is); (case c => k_is); (case k => k_is))
    (case p_dWs => refine' Cr.defAt ?a ?l ?c ?k; (case a => k_is); (case l => k_is); (case c => k_is); (case k => k_is))
    (case p_dMix => refine' Cr.defAt ?a ?l ?c ?k; (case a => k_is); (case l => k_is); (case c => k_is); (case k => k_is))
    (case p_dIn => refine' Cr.defAt ?a ?l ?c ?k; (case a => k_is); (case l => k_is); (case c => k_is); (case k => k_is))
    (case p_dLo => refine' Cr.defAt ?a ?l ?c ?k; (case a => k_is); (case l => k_is); (case c => k_is); (case k => k_is))
    (case p_dRd => refine' Cr.defAt ?a ?l ?c ?k; (case a => k_is); (case l => k_is); (case c => k_is); (case k => k_is))
    (case p_dGe => refine' Cr.defAt ?a ?l ?c ?k; (case a => k_is); (case l => k_is); (case c => k_is); (case k => k_is))
    (case p_dMo => refine' Cr.defAt ?a ?l ?c ?k; (case a => k_is); (case l => k_is); (case c => k_is); (case k => k_is))
    (case p_dSh => refine' Cr.defAt ?a ?l ?c ?k; (case a => k_is); (case l => k_is); (case c => k_is); (case k => k_is))
    (case p_dAl => refine' Cr.defAt ?a ?l ?c ?k; (case a => k_is); (case l => k_is); (case c => k_is); (case k => k_is))
    (case p_dOp => refine' Cr.defAt ?a ?l ?c ?k; (case a => k_is); (case l => k_is); (case c => k_is); (case k => k_is))
    (case p_dPr => refine' Cr.defAt ?a ?l ?c ?k; (case a => k_is); (case l => k_is); (case c => k_is); (case k => k_is))
    (case p_dFx => refine' Cr.defAt ?a ?l ?c ?k; (case a => k_is); (case l => k_is); (case c => k_is); (case k => k_is))
    (case p_dMi => refine' Cr.defAt ?a ?l ?c ?k; (case a => k_is); (case l => k_is); (case c => k_is); (case k => k_is))
    (case p_dTr => refine' Cr.defAt ?a ?l ?c ?k; (case a => k_is); (case l => k_is); (case c => k_is); (case k => k_is))
    (case p_dUn => refine' Cr.defAt ?a ?l ?c ?k; (case a => k_is); (case l => k_is); (case c => k_is); (case k => k_is))
    (case p_dLaw => refine' Cr.defAt ?a ?l ?c ?k; (case a => k_is); (case l => k_is); (case c => k_is); (case k => k_is))
