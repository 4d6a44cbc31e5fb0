import PyProof.Rows.All
import Wide.All
import OpenK.AllK
import Wide.FinOn
import PyProof.ReprRoads
import KE.GoesMore
import HandS.ForMost
import HandS.Evl
import HandS.IsInst
import HandS.Zip
import HandS.WideBits
import HandS.EndBits
import HandS.More
import HandS.Walk
import HandS.TupAny
import HandS.ExcInit
import HandS.ExcIs
import HandS.ExcField
import HandS.WordsExc
import KE.KExcSuper
import KE.KExcInit
import HandS.ExcOwn
import PyProof.ExcBaseAll.LookupError
import HandS.OwnEq
import HandS.NamedTupGet
import HandS.CallSlots
import HandS.Defaults
import HandS.MakeKwOnly
import HandS.FStr
import KE.KExcIs
import HandS.Style
import HandS.DictComp
import HandS.Small
import KE.SortData
import PyProof.Rows.StrMeet
import PyProof.Rows.SortWalk
import HandS.HotCalls
import KE.KEqDict
import PyProof.NeKinds
import PyProof.P3In
import KE.DataMinMax
import KE.Datum
import HandS.SetFor
import HandS.Base
import HandS.TupSets
import HandS.Set
import HandS.SetBool
import PyProof.Rows.SortStr
import HandS.Strs
import KE.KDictZip
import HandS.List
import HandS.Dict
import PyProof.ListStr
import PySem.Challenge.RW_cycleready_k24_whole_shortest_paths
set_option Elab.async false
set_option linter.all false
set_option maxRecDepth 100000
set_option maxHeartbeats 4000000
/-! Cr, part 1: promises of defs that hold where no repr is under way (so that repr may be asked inside of them). -/
namespace Cr
open PySem PySem.Spec PyProof.Rows L2 Evl
/-- nothing is being shown around -/
abbrev Quiet (A : Around) : Prop := A.guards = some []
/-- a def's promise, kept where it is quiet -/
structure FnG (P : Program) (w : World) (K : PySem.W.Frag) (mg : Str → Option Value) (base : Heap) (CX : CXT) (k : Nat) (f : Addr) (fd : FuncData) (ps : List Str) (sp : Sp) : Prop where
  sized : ∀ vs H Q E, sp vs H Q E → vs.length = ps.length
  goes : ∀ (A : Around) (outer : List Env) (s : Shared) (H : Hp) (args : Args) (us : List Value) (vs : List V) (Q : VK) (E : XK),
    Quiet A → Room k A → Env0 P w K mg base A outer s H → BindsTo s fd args (ps.zip us) → Vals vs us → sp vs H Q E →
    codeAny (model P w) A (.call (.ref f) args) (CR CX outer P w H s Q E) s
section
variable {P : Program} {w : World} {K : PySem.W.Frag} {mg : Str → Option Value} {base : Heap}
theorem FnG.up {CX : CXT} {j k : Nat} {f : Addr} {fd : FuncData} {ps : List Str} {sp : Sp}
    (F : FnG P w K mg base CX j f fd ps sp) (le : j ≤ k) : FnG P w K mg base CX k f fd ps sp :=
  ⟨F.sized, fun A outer s H args us vs Q E hq hr e hb r h => F.goes A outer s H args us vs Q E hq (hr.mono le) e hb r h⟩
/-- a def by its body, where it is quiet -/
theorem okG {x qual : Str} {st : Stmt} {f : Addr} {fd : FuncData} {N ps : List Str} {k : Nat} {sp : Sp}
    (F : Fun K x qual st f fd) (S : FnScope N ps (defScope st)) (len : ∀ vs H Q E, sp vs H Q E → vs.length = ps.length)
    (hbody : ∀ (cdv : Value) (A : Around) (outer : List Env) (s : Shared) (H : Hp) (vs : List V) (Q : VK) (E : XK),
      Quiet (A.deeper (envOfC qual (defScope st) s.heap.objs.size f cdv)) →
      Room k (A.deeper (envOfC qual (defScope st) s.heap.objs.size f cdv)) → sp vs H Q E →
      ∃ t, PSs (cxOf CX0 P w K mg base N qual (defScope st) f cdv A outer s H E).nox (defBody st) t ∧
        t { nx := fun _ H' => Q .non H', rt := Q } (start N vs) H) :
    FnG P w K mg base CX0 (k + 1) f fd ps sp := by
  obtain ⟨oc, od, kV, doc, pm, an, cdv, ct, osl, rfl, lk, hcd⟩ := F.ex
  refine ⟨len, fun A outer s H args us vs Q E hq hr e0 hb r hsp => ?_⟩
  have keepB : ∀ b o, base.get? b = some o → s.heap.get? b = some o := fun b o e => (e0.bs b o e).1
  have kinds : ((ps.zip us).all fun y => (defScope st).names.lookup y.1 == some .local || (defScope st).names.lookup y.1 == some .cell) = true := by
    refine List.all_eq_true.mpr fun y hy => ?_
    obtain ⟨n, v⟩ := y
    rcases S.par n (List.of_mem_zip hy).1 with z | z
    · simp [z]
    · simp [z]
  refine Att.call_fn (binds := ps.zip us) (e0.mod.kin.keeps keepB) (e0.mod.nolimit.keeps keepB) lk hcd hr.depth hb kinds (fun s1 IC => ?_) S.co S.gen S.kind
  obtain ⟨t, ht, hT⟩ := hbody cdv A outer s H vs Q E hq (hr.deeper _) hsp
  have I := inv_start (CX := CX0) (E := E) S hr.hd e0 (len _ _ _ _ hsp) r IC
  refine wpAny_mono (ht.nox.run [] s1 (start N vs) H _ I hT) (fun fl s2 h2 => ?_) fun e s2 h2 => h2
  match fl, h2 with
  | .ret u, ⟨v, σ2, H2, J, rv, q⟩ => exact ⟨v, H2, J.os, J.bare, J.base, J.hok, rv, q⟩
  | .next, ⟨σ2, H2, J, q⟩ => exact ⟨V.non, H2, J.os, J.bare, J.base, J.hok, rfl, q⟩
  | .brk, ⟨_, _, _, q⟩ => exact q.elim
  | .cont, ⟨_, _, _, q⟩ => exact q.elim
end
section
variable {X : Cx} {CX : CXT} {k : Nat} {f : Addr} {fd : FuncData} {ps : List Str} {sp : Sp} {dvs : List V} {ds : List Value} {E : XK}
/-- the callee, called where it is quiet -/
theorem runG {pins : List (Addr × Obj)} {σ : L2.St} {H : Hp} {s : Shared} {Q : VK} {us : List Value} {vs : List V}
    (F : FnG X.prog X.w X.K X.mg X.base CX k f fd ps sp) (hq : Quiet X.A) (hr : Room k X.A) (hb : Binds X.K fd ps ds) (hd : Vals dvs ds)
    (hx : Passes CX X E) (I : Inv X pins σ H s) (r : Vals vs us) (h : sp (vs ++ dvs) H Q E) :
    wpAny (model X.prog X.w) X.A (call (.ref f) us) (EP X pins σ Q) X.xe s := by
  have rr : Vals (vs ++ dvs) (us ++ ds) := Vals.append r hd
  have nn : (us ++ ds).length = ps.length := rr.length.symm.trans (F.sized _ _ _ _ h)
  have c := F.goes X.A X.stack s H ⟨us, []⟩ (us ++ ds) (vs ++ dvs) Q E hq hr (Inv.env0 I) (hb s us I.kIn nn) rr h
  refine wpAny_call (codeAny_mono c fun res s2 z => ?_)
  match res, z with
  | .error e, z => exact hx pins σ H s e s2 I z
  | .ok (.ret u), z => exact Inv.after I z
  | .ok .next, z => exact False.elim z
  | .ok .brk, z => exact False.elim z
  | .ok .cont, z => exact False.elim z
variable {x : Str} {p pos : Pos} {e : Expr} {es : List Expr} {t : TA}
theorem callG (F : FnG X.prog X.w X.K X.mg X.base CX k f fd ps sp) (hq : Quiet X.A) (hr : Room k X.A) (hg : Gl X x)
    (hm : X.mg x = some (.ref f)) (hk : PySem.W.keepIn X.K (.ref f) = true) (hb : Binds X.K fd ps ds) (hd : Vals dvs ds) (hx : Passes CX X E)
    (ha : PA X (e :: es) t) (hdb : (x == ("__debug__" : Str)) = false := by decide)
    (he : starEach (e :: es) X.env = (false, eval e X.env) :: starEach es X.env := by rfl)
    (hpl : (backTo pos (starEach es X.env)).any (·.1) = false := by rfl) :
    PE X (.Call (.Name x p) (e :: es) [] pos) (tCall sp dvs E t) := by
  constructor
  intro pins s σ H Q I h
  refine wpAny_Call_Name_kw (ld_glob I hg hm ?_ hdb)
  refine PySem.W.callWith_K (h₀ := X.base) I.ok.mod.kin hk ?_ he hpl
  refine thn (ha.run pos pins s σ H _ I h) ?_
  rintro us s1 ⟨vs, H1, I1, r, q⟩
  exact ⟨I1.kIn, runG F hq hr hb hd hx I1 r q⟩
theorem call0G (F : FnG X.prog X.w X.K X.mg X.base CX k f fd ps sp) (hq : Quiet X.A) (hr : Room k X.A) (hg : Gl X x)
    (hm : X.mg x = some (.ref f)) (hk : PySem.W.keepIn X.K (.ref f) = true) (hb : Binds X.K fd ps ds) (hd : Vals dvs ds) (hx : Passes CX X E)
    (hdb : (x == ("__debug__" : Str)) = false := by decide) : PE X (.Call (.Name x p) [] [] pos) (tCall sp dvs E tNil) := by
  constructor
  intro pins s σ H Q I h
  refine wpAny_Call_Name_kw (ld_glob I hg hm ?_ hdb)
  exact PySem.W.callWith_K0 I.kIn hk (runG (us := []) F hq hr hb hd hx I .nil h)
end
/-! ### the law's own call -/
theorem law_callG {P : Program} {w : World} {K : PySem.W.Frag} {mg mb : Str → Option Value} {k : Nat} {fa a : Addr} {fd : FuncData} {x : Str} {sp : Sp} {s₁ : Shared} {vs : List Value} {ns : List Int}
    (KX : K.In s₁.heap) (hns : s₁.heap.Ns mainGlobals mg) (hb : s₁.heap.Ns builtinsNs mb) (hbb : ∀ x : Str, x ≠ "__name__" → mb x = bootBuiltins x)
    (hlim : s₁.heap.NoLimit) (hg : s₁.gens = #[]) (ha : s₁.heap.get? a = some { cls := .type "list", data := .seq vs.toArray })
    (hi : IntsAre vs ns) (hl : ns.length ≤ sizeLine) (hr : Room k callerA)
    (F : ∀ base : Heap, K.In base → base.Ns mainGlobals mg → FnG P w K mg base CX0 k fa fd [x] sp)
    (hbind : ∀ (s : Shared) (u : Value), BindsTo s fd ⟨[u], []⟩ [(x, u)])
    (hsp : ∀ H : Hp, SqL K H a (ns.map V.int) → sp [.ref a] H (fun v _ => v = .bl true) E0) :
    codeAny (model P w) callerA (.call (.ref fa) ⟨[.ref a], []⟩) (fun r s' => r = .ok (.ret (.bool true)) ∧ OldK s₁.heap s'.heap ∧ s'.os = s₁.os ∧ AllBare s'.gens) s₁ := by
  have rv := vals_ints hi
  have lenV := hi.length
  have core : ∀ H : Hp, (∀ b, H b = none ∨ (b = a ∧ H b = some (.frz { cls := .type "list", data := .seq vs.toArray } (.lst (ns.map V.int))) ∧ K.lookup a = none)) →
      SqL K H a (ns.map V.int) →
      codeAny (model P w) callerA (.call (.ref fa) ⟨[.ref a], []⟩) (fun r s' => r = .ok (.ret (.bool true)) ∧ OldK s₁.heap s'.heap ∧ s'.os = s₁.os ∧ AllBare s'.gens) s₁ := by
    intro H hO hS
    have hok : HOk P w H s₁.heap := fun b u z => by
      rcases hO b with q | ⟨rfl, q, _⟩
      · rw [q] at z; cases z
      · rw [q] at z; cases z
        exact ⟨ha, by rw [List.length_map]; exact hl, vs, _, rv, ha⟩
    have keepN : ∀ {b : Addr} {m : Str → Option Value}, s₁.heap.Ns b m → (hidT s₁.heap H).Ns b m := fun {b m} z => by
      obtain ⟨o, es, ep, e, d, r⟩ := z
      refine ⟨o, es, ep, hidT_get e ?_, d, r⟩
      rcases hO b with q | ⟨rfl, q, _⟩
      · exact q
      · rw [ha] at e
        cases e
        have d' : Data.seq vs.toArray _ = Data.dict es ep := d
        cases d'
    have keepK : K.In (hidT s₁.heap H) := fun b o e => by
      refine hidT_get (KX b o e) ?_
      rcases hO b with q | ⟨rfl, q, n⟩
      · exact q
      · rw [n] at e; cases e
    have hM : Mod K mg (hidT s₁.heap H) := by
      obtain ⟨mc, l1, l2⟩ := hlim
      exact ⟨keepK, keepN hns, ⟨mb, keepN hb, hbb⟩, ⟨mc, keepN l1, l2⟩⟩
    have e0 : Env0 P w K mg (hidT s₁.heap H) callerA [] s₁ H :=
      { frames := rfl, mod := hM, bs := fun b o e => of_hidT e, bsz := Nat.le_of_eq (hidT_size _ _), funs := trivial,
        frf := fun b z => absurd (show b ∈ ([] : List Addr) from z) List.not_mem_nil, hok := hok, bare := .of_eq hg }
    have go := (F _ keepK (keepN hns)).goes callerA [] s₁ H ⟨[.ref a], []⟩ [.ref a] [.ref a] _ _ rfl hr e0 (hbind s₁ (.ref a)) (.cons rfl .nil) (hsp H hS)
    refine codeAny_mono go fun res s2 z => ?_
    match res, z with
    | .error e, z => exact z.elim
    | .ok .next, z => exact False.elim z
    | .ok .brk, z => exact False.elim z
    | .ok .cont, z => exact False.elim z
    | .ok (.ret u), ⟨v, H2, os, bare, un, hok2, rel, q⟩ =>
      have qv : v = .bl true := q
      subst qv
      obtain rfl : u = Value.bool true := rel
      refine ⟨rfl, OldK.of_keep fun b o e => ?_, os, bare⟩
      rcases hO b with z | ⟨rfl, z, _⟩
      · exact un.keep b o e z (fun y => absurd (show b ∈ ([] : List Addr) from y) List.not_mem_nil) List.not_mem_nil
      · obtain ⟨g1, _⟩ := hok2 b _ (un.frzs b _ _ z)
        rw [ha] at e
        cases e
        exact g1
  cases hk : K.lookup a with
  | some o =>
    have e := KX a o hk
    rw [ha] at e
    cases e
    exact core (fun _ => none) (fun _ => .inl rfl) (.inr ⟨_, vs.toArray, _, hk, rfl, rfl, rfl, by rw [List.size_toArray, lenV]; exact hl, by simpa using rv⟩)
  | none =>
    refine core (fun b => if b = a then some (.frz { cls := .type "list", data := .seq vs.toArray } (.lst (ns.map V.int))) else none) (fun b => ?_) (.inl (.inr ⟨_, if_pos rfl⟩))
    by_cases hb : b = a
    · exact .inr ⟨hb, if_pos hb, hk⟩
    · exact .inl (if_neg hb)
/-- the end of a law row, the script's bits told -/
theorem walkG {l : PySem.W.OpenLaw} {n k : Nat} {q : Program} {loose : List Str} {XP : (Str → Option Value) → Heap → Prop} {YP : World → Heap → Prop} {d : DefRec} {K : Params → PySem.W.Frag} {sp : World → Sp} {x : Str}
    (hn : l.most = some n) (hn2 : n ≤ sizeLine) (hdf : d.params.defaults = []) (hr : Room k callerA)
    (hY : ∀ (w : World) (h : Heap), YP w h → (K w.params).In h)
    (F : ∀ (w : World) (mg : Str → Option Value) (fa : Addr) (h : Heap), (K w.params).In h → h.Ns mainGlobals mg → mg d.name = some (.ref fa) →
      ∃ fd : FuncData, (∀ (s : Shared) (u : Value), BindsTo s fd ⟨[u], []⟩ [(x, u)]) ∧
        ∀ base : Heap, (K w.params).In base → base.Ns mainGlobals mg → FnG l.prog w (K w.params) mg base CX0 k fa fd [x] (sp w))
    (hsp : ∀ (w : World) (H : Hp) (a : Addr) (ns : List Int), ns.length ≤ n → (∀ z ∈ ns, Builtin.Int.intBits z ≤ 1048576) →
      SqL (K w.params) H a (ns.map V.int) → sp w [.ref a] H (fun v _ => v = .bl true) E0) :
    PySem.W.WalkO q loose XP YP l.row.toRowW d [] (fun f vs => PySem.call f vs) := by
  refine Att.attach_callB hn hdf ?_
  intro w s₀ s₁ mg mb fa o pm cd doc a vs ns G Y ho hd hcd hmg hobj hints hlen hbits hgen
  obtain ⟨fd, hb, hF⟩ := F w mg fa _ (hY w _ Y) G.T.g hmg
  exact law_callG (hY w _ Y) G.T.g G.T.b G.T.builtins G.T.nolimit hgen hobj hints (Nat.le_trans hlen hn2) hr hF hb
    (fun H hS => hsp w H a ns hlen hbits hS)
end Cr
/-! Cr, part 2: data in the abstract heap, repr of it, isinstance of it. -/
namespace Cr
open PySem PySem.Spec PyProof.Rows L2 Evl
def kD : Key → PyData
  | .inl i => .int i
  | .inr x => .str x
mutual
/-- the value v is the data d, all of it tracked -/
inductive Dt (H : Hp) : V → PyData → Prop
  | non : Dt H .non .none
  | bl (b : Bool) : Dt H (.bl b) (.bool b)
  | int (i : Int) : Dt H (.int i) (.int i)
  | str (x : Str) : Dt H (.str x) (.str x)
  | lst {a : Addr} {xs : List V} {ds : List PyData} : H a = some (.lst xs) → DtAll H xs ds → Dt H (.ref a) (.list ds)
  | tup {a : Addr} {xs : List V} {ds : List PyData} : H a = some (.tup xs) → DtAll H xs ds → Dt H (.ref a) (.tuple ds)
  | dct {a : Addr} {kvs : List (Key × V)} {es : List (PyData × PyData)} : H a = some (.dK kvs) → DtKv H kvs es → Dt H (.ref a) (.dict es)
inductive DtAll (H : Hp) : List V → List PyData → Prop
  | nil : DtAll H [] []
  | cons {v : V} {vs : List V} {d : PyData} {ds : List PyData} : Dt H v d → DtAll H vs ds → DtAll H (v :: vs) (d :: ds)
inductive DtKv (H : Hp) : List (Key × V) → List (PyData × PyData) → Prop
  | nil : DtKv H [] []
  | cons {k : Key} {v : V} {kvs : List (Key × V)} {d : PyData} {es : List (PyData × PyData)} : Dt H v d → DtKv H kvs es → DtKv H ((k, v) :: kvs) ((kD k, d) :: es)
end
mutual
theorem Dt.ex {H H' : Hp} (e : Ex H H') : ∀ {v : V} {d : PyData}, Dt H v d → Dt H' v d
  | _, _, .non => .non
  | _, _, .bl b => .bl b
  | _, _, .int i => .int i
  | _, _, .str x => .str x
  | _, _, .lst h a => .lst (e _ _ h) (DtAll.ex e a)
  | _, _, .tup h a => .tup (e _ _ h) (DtAll.ex e a)
  | _, _, .dct h a => .dct (e _ _ h) (DtKv.ex e a)
theorem DtAll.ex {H H' : Hp} (e : Ex H H') : ∀ {vs : List V} {ds : List PyData}, DtAll H vs ds → DtAll H' vs ds
  | _, _, .nil => .nil
  | _, _, .cons h t => .cons (Dt.ex e h) (DtAll.ex e t)
theorem DtKv.ex {H H' : Hp} (e : Ex H H') : ∀ {kvs : List (Key × V)} {es : List (PyData × PyData)}, DtKv H kvs es → DtKv H' kvs es
  | _, _, .nil => .nil
  | _, _, .cons h t => .cons (Dt.ex e h) (DtKv.ex e t)
end
theorem DtAll.length {H : Hp} : ∀ {vs : List V} {ds : List PyData}, DtAll H vs ds → vs.length = ds.length
  | _, _, .nil => rfl
  | _, _, .cons _ t => by simp [DtAll.length t]
theorem DtKv.len {H : Hp} : ∀ {kvs : List (Key × V)} {ds : List (PyData × PyData)}, DtKv H kvs ds → kvs.length = ds.length
  | _, _, .nil => rfl
  | _, _, .cons _ t => by simp [DtKv.len t]
theorem DtAll.get {H : Hp} : ∀ {vs : List V} {ds : List PyData} {i : Nat} {v : V}, DtAll H vs ds → vs[i]? = some v → ∃ d, ds[i]? = some d ∧ Dt H v d
  | _, _, _, _, .nil, h => by simp at h
  | _, _, 0, _, .cons h _, e => by simp at e; subst e; exact ⟨_, rfl, h⟩
  | _, _, i + 1, _, .cons _ t, e => by
    obtain ⟨d, h1, h2⟩ := DtAll.get (i := i) t (by simpa using e)
    exact ⟨d, by simpa using h1, h2⟩
theorem DtAll.append {H : Hp} : ∀ {vs ws : List V} {ds es : List PyData}, DtAll H vs ds → DtAll H ws es → DtAll H (vs ++ ws) (ds ++ es)
  | _, _, _, _, .nil, s => s
  | _, _, _, _, .cons h t, s => .cons h (DtAll.append t s)
theorem DtAll.drop {H : Hp} : ∀ {vs : List V} {ds : List PyData} (n : Nat), DtAll H vs ds → DtAll H (vs.drop n) (ds.drop n)
  | _, _, 0, h => h
  | _, _, _ + 1, .nil => .nil
  | _, _, n + 1, .cons _ t => DtAll.drop n t
theorem DtAll.take {H : Hp} : ∀ {vs : List V} {ds : List PyData} (n : Nat), DtAll H vs ds → DtAll H (vs.take n) (ds.take n)
  | _, _, 0, _ => .nil
  | _, _, _ + 1, .nil => .nil
  | _, _, n + 1, .cons h t => .cons h (DtAll.take n t)
theorem DtAll.set {H : Hp} {v : V} {d : PyData} (hv : Dt H v d) : ∀ {vs : List V} {ds : List PyData} (n : Nat), DtAll H vs ds → DtAll H (vs.set n v) (ds.set n d)
  | _, _, _, .nil => .nil
  | _, _, 0, .cons _ t => .cons hv t
  | _, _, n + 1, .cons h t => .cons h (DtAll.set hv n t)
/-! ### the heap without one object -/
def wo (p : Addr) (H : Hp) : Hp := fun a => if a = p then none else H a
theorem wo_ne {p a : Addr} {H : Hp} (h : a ≠ p) : wo p H a = H a := if_neg h
theorem wo_same {p : Addr} {H : Hp} : wo p H p = none := if_pos rfl
theorem wo_some {p a : Addr} {H : Hp} {o : HO} (h : wo p H a = some o) : a ≠ p ∧ H a = some o := by
  by_cases e : a = p
  · subst e
    rw [wo_same] at h
    cases h
  · rw [wo_ne e] at h
    exact ⟨e, h⟩
theorem wo_ex (p : Addr) (H : Hp) : Ex (wo p H) H := fun a o h => (wo_some h).2
theorem Ex.wo {p : Addr} {H H' : Hp} (e : Ex H H') : Ex (Cr.wo p H) (Cr.wo p H') := fun a o h => by
  obtain ⟨n, h⟩ := wo_some h
  rw [wo_ne n]
  exact e a o h
theorem wo_upd {p : Addr} {H H' : Hp} {o : HO} (e : Ex (wo p H) (wo p H')) : Ex (wo p H) (wo p (upd H' p o)) := fun a u h => by
  have n := (wo_some h).1
  have q := e a u h
  rw [wo_ne n] at q
  rw [wo_ne n, upd_ne n]
  exact q
/-! ### the kind of data -/
def tyT : PyData → String
  | .none => "NoneType"
  | .bool _ => "bool"
  | .int _ => "int"
  | .str _ => "str"
  | .list _ => "list"
  | .tuple _ => "tuple"
  | .dict _ => "dict"
theorem Dt.ty {K : PySem.W.Frag} {H : Hp} {v : V} {d : PyData} (h : Dt H v d) : TyX K H v (.type (tyT d)) := by
  cases h with
  | non => exact .base .non
  | bl b => exact .base (.bl b)
  | int i => exact .base (.int i)
  | str x => exact .base (.str x)
  | lst h _ => exact .base (.lst h)
  | tup h _ => exact .base (.tup h)
  | dct h _ => exact .base (.dK h)
/-- isinstance(v, T), T one of the plain types -/
def isTs (T t : String) : Bool := t == T || (T == "int" && t == "bool")
def isT (T : String) (d : PyData) : Bool := isTs T (tyT d)
theorem kitS : ∀ t ∈ ["NoneType", "bool", "int", "str", "list", "tuple", "dict"], ∀ T ∈ ["int", "bool", "str", "list", "tuple", "dict"], kitB t T = some (isTs T t) := by decide +kernel
theorem tyT_mem (d : PyData) : tyT d ∈ ["NoneType", "bool", "int", "str", "list", "tuple", "dict"] := by
  cases d <;> simp [tyT]
theorem kit_isT {K : PySem.W.Frag} {T : String} (hT : T ∈ ["int", "bool", "str", "list", "tuple", "dict"]) (d : PyData) :
    PySem.W.kitOne K (.type (tyT d)) (.type T) = some (isT T d) := kit_ty (kitS _ (tyT_mem d) _ hT)
/-- isinstance on data -/
theorem rc_isi {K : PySem.W.Frag} {H : Hp} {v : V} {d : PyData} {T : String} (h : Dt H v d) (hT : T ∈ ["int", "bool", "str", "list", "tuple", "dict"]) :
    RC (rIsi K) [v, .ty T] H (.bl (isT T d)) := fun H1 e Q q =>
  ⟨v, .ty T, .type (tyT d), .type T, isT T d, rfl, .ty T, (Dt.ex e h).ty, kit_isT hT d, q H1 (Ex.refl H1)⟩
/-! ### repr -/
section
variable {X : Cx} {pins : List (Addr × Obj)} {σ : L2.St} {H : Hp} {s : Shared}
/-- what is shown of a value, at any heap that keeps this one -/
def Shown (P : Program) (w : World) (h : Heap) (v : Value) (d : PyData) : Prop :=
  (∃ as, Reads h v d as) ∧ (d.showable = true → d.shown.length ≤ sizeLine → ∃ bs, ReadAtMost h d.depth bs ∧ ReprK P w bs h d.depth v d.shown)
def ShownAll (P : Program) (w : World) (h : Heap) (vs : List Value) (ds : List PyData) : Prop :=
  (∃ as, ReadsAll h vs ds as) ∧ (PyData.showableAll ds = true → (∀ t ∈ PyData.shownAll ds, t.length ≤ sizeLine) →
    ∃ bs, ReadAtMost h (PyData.depthAll ds) bs ∧ ReprAllK P w bs h (PyData.depthAll ds) vs (PyData.shownAll ds))
theorem ShownAll.nil {P : Program} {w : World} {h : Heap} : ShownAll P w h [] [] :=
  ⟨⟨_, .nil⟩, fun _ _ => ⟨[], (fun _ z => nomatch z), by rw [PyData.shownAll]; exact .nil⟩⟩
theorem ShownAll.cons {P : Program} {w : World} {h : Heap} {v : Value} {vs : List Value} {d : PyData} {ds : List PyData} (a : Shown P w h v d) (b : ShownAll P w h vs ds) : ShownAll P w h (v :: vs) (d :: ds) := by
  obtain ⟨⟨as, ra⟩, sa⟩ := a
  obtain ⟨⟨bs, rb⟩, sb⟩ := b
  refine ⟨⟨_, .cons ra rb⟩, fun hs hz => ?_⟩
  rw [PyData.showableAll, Bool.and_eq_true] at hs
  rw [PyData.shownAll] at hz
  obtain ⟨b1, m1, k1⟩ := sa hs.1 (hz _ (List.mem_cons_self ..))
  obtain ⟨b2, m2, k2⟩ := sb hs.2 fun t ht => hz t (List.mem_cons_of_mem _ ht)
  refine ⟨b1 ++ b2, ?_, ?_⟩
  · rw [PyData.depthAll]
    exact (m1.mono (Nat.le_max_left _ _)).append (m2.mono (Nat.le_max_right _ _))
  · rw [PyData.depthAll, PyData.shownAll]
    exact .cons ((k1.more fun b hb => List.mem_append_left _ hb).level_le (Nat.le_max_left _ _)) (k2.more_le (fun b hb => List.mem_append_right _ hb) (Nat.le_max_right _ _))
theorem Shown.list {P : Program} {w : World} {h : Heap} {a : Addr} {o : Obj} {vs : List Value} {n : Nat} {ds : List PyData} (g : h.get? a = some o) (c : o.cls = .type "list") (e : o.data = .seq vs.toArray n) (S : ShownAll P w h vs ds) : Shown P w h (.ref a) (.list ds) := by
  obtain ⟨⟨as, ra⟩, sa⟩ := S
  have R : Reads h (.ref a) (.list ds) (a :: as) := .list g c e (by simpa using ra)
  refine ⟨⟨_, R⟩, fun hs hz => ?_⟩
  rw [PyData.showable] at hs
  rw [PyData.shown] at hz
  obtain ⟨bs, m, k⟩ := sa hs fun t ht => Nat.le_trans (listText_mem_le ht) hz
  have no : a ∉ bs := not_mem_of_deeper R (by rw [PyData.depth]; omega) m
  refine ⟨a :: bs, ReadAtMost.cons R (by rw [PyData.depth]; omega) m, ?_⟩
  rw [PyData.depth, PyData.shown]
  cases vs with
  | nil =>
    cases ra
    rw [PyData.shownAll, listText_nil]
    exact ReprK.listEmpty g c e
  | cons x l => exact ReprK.list g c e no (by simpa using k.length_eq) fun i y q => k.item i y (by simpa using q)
theorem Shown.tuple {P : Program} {w : World} {h : Heap} {a : Addr} {o : Obj} {vs : List Value} {n : Nat} {ds : List PyData} (g : h.get? a = some o) (c : o.cls = .type "tuple") (e : o.data = .seq vs.toArray n) (S : ShownAll P w h vs ds) : Shown P w h (.ref a) (.tuple ds) := by
  obtain ⟨⟨as, ra⟩, sa⟩ := S
  have R : Reads h (.ref a) (.tuple ds) as := .tuple g c e (by simpa using ra)
  refine ⟨⟨_, R⟩, fun hs hz => ?_⟩
  rw [PyData.showable] at hs
  rw [PyData.shown] at hz
  obtain ⟨bs, m, k⟩ := sa hs fun t ht => Nat.le_trans (tupleText_mem_le ht) hz
  refine ⟨a :: bs, ReadAtMost.cons R (by rw [PyData.depth]; omega) m, ?_⟩
  rw [PyData.depth, PyData.shown]
  exact ReprK.tuple g c e (not_mem_of_deeper R (by rw [PyData.depth]; omega) m) (by simpa using k)
theorem Shown.dict {P : Program} {w : World} {h : Heap} {a : Addr} {o : Obj} {es : Array DictEntry} {n : Nat} {kvs : List (PyData × PyData)} (g : h.get? a = some o) (c : o.cls = .type "dict") (e : o.data = .dict es n) (sys : (a == sysModules) = false)
    (S1 : ShownAll P w h (es.toList.map (·.key)) (kvs.map (·.1))) (S2 : ShownAll P w h (es.toList.map (·.val)) (kvs.map (·.2))) : Shown P w h (.ref a) (.dict kvs) := by
  obtain ⟨⟨as, ra⟩, sa⟩ := S1
  obtain ⟨⟨bs, rb⟩, sb⟩ := S2
  have R : Reads h (.ref a) (.dict kvs) (a :: as ++ bs) := .dict g c e ra rb
  refine ⟨⟨_, R⟩, fun hs hz => ?_⟩
  rw [PyData.showable] at hs
  rw [PyData.shown] at hz
  obtain ⟨h1, h2⟩ := PyData.showableKv_split kvs hs
  obtain ⟨b1, m1, k1⟩ := sa h1 fun t ht => let ⟨p, hp, hl⟩ := PyData.shownKv_key_le kvs t ht; Nat.le_trans hl (Nat.le_trans (dictText_mem_le hp) hz)
  obtain ⟨b2, m2, k2⟩ := sb h2 fun t ht => let ⟨p, hp, hl⟩ := PyData.shownKv_val_le kvs t ht; Nat.le_trans hl (Nat.le_trans (dictText_mem_le hp) hz)
  have m := (m1.mono (PyData.depthAll_keys_le kvs)).append (m2.mono (PyData.depthAll_vals_le kvs))
  refine ⟨a :: (b1 ++ b2), ReadAtMost.cons R (by rw [PyData.depth]; omega) m, ?_⟩
  rw [PyData.depth, PyData.shown, PyData.shownKv_eq]
  refine ReprK.dict g c e sys (not_mem_of_deeper R (by rw [PyData.depth]; omega) m) ?_
  exact ReprEntriesK.of_two es.toList _ _ (k1.more_le (fun b hb => List.mem_append_left _ hb) (PyData.depthAll_keys_le kvs)) (k2.more_le (fun b hb => List.mem_append_right _ hb) (PyData.depthAll_vals_le kvs))
theorem Shown.key {P : Program} {w : World} {h : Heap} {k : Key} {v : Value} (q : keyIs k v = true) : Shown P w h v (kD k) := by
  rcases keyIs_shape q with ⟨i, t, rfl, rfl⟩ | ⟨x, t, rfl, rfl⟩
  · refine ⟨⟨_, Reads.int i t⟩, fun hs _ => ⟨[], (fun _ z => nomatch z), ?_⟩⟩
    simp only [kD, PyData.shown]
    exact .of_is (ReprIs.int t (by simpa [kD, PyData.showable] using hs)) _ _ _
  · refine ⟨⟨_, Reads.str x t⟩, fun _ hz => ⟨[], (fun _ z => nomatch z), ?_⟩⟩
    simp only [kD, PyData.shown] at hz ⊢
    exact .of_is (ReprIs.str x t hz) _ _ _
/-- keys and values of a tracked dict -/
theorem shown_pairs {P : Program} {w : World} {h : Heap} : ∀ {kvs : List (Key × V)} {us : List (Key × Value)} {es : List DictEntry} {ds : List (PyData × PyData)},
    KV kvs us → PySem.Pairs (mixKind P w) es us → (∀ (i : Nat) (k : Key) (v : V) (u : Value), kvs[i]? = some (k, v) → RelV v u → ∃ d, ds[i]? = some (kD k, d) ∧ Shown P w h u d) → kvs.length = ds.length →
    ShownAll P w h (es.map (·.key)) (ds.map (·.1)) ∧ ShownAll P w h (es.map (·.val)) (ds.map (·.2))
  | [], _, _, ds, kv, ps, _, hl => by
    cases kv
    cases ps
    cases ds with
    | nil => exact ⟨.nil, .nil⟩
    | cons x r => simp at hl
  | (k, v) :: r, _, _, ds, kv, ps, hv, hl => by
    cases kv with
    | cons h1 h2 =>
      rename_i q us'
      obtain ⟨e1, rv⟩ := h1
      cases ps with
      | cons p1 p2 p3 =>
        obtain ⟨d, ed, sd⟩ := hv 0 k v q.2 rfl rv
        cases ds with
        | nil => simp at hl
        | cons x ds' =>
          simp at ed
          subst ed
          have ih := shown_pairs h2 p3 (ds := ds') (fun i k' v' u' e r' => by
            obtain ⟨d', g1, g2⟩ := hv (i + 1) k' v' u' (by simpa using e) r'
            exact ⟨d', by simpa using g1, g2⟩) (by simpa using hl)
          have e1' : k = q.1 := e1
          rw [List.map_cons, List.map_cons, List.map_cons, List.map_cons]
          refine ⟨.cons (Shown.key (k := k) ?_) ih.1, .cons ?_ ih.2⟩
          · rw [e1']
            exact p1
          · show Shown P w h _ d
            rw [p2]
            exact sd
mutual
theorem Dt.shown (I : Inv X pins σ H s) : ∀ {v : V} {d : PyData}, Dt H v d → ∀ {u : Value}, RelV v u → Shown X.prog X.w s.heap u d
  | _, _, .non, _, r => by
    cases r
    exact ⟨⟨_, Reads.none⟩, fun _ _ => ⟨[], (fun _ z => nomatch z), by rw [PyData.shown]; exact .of_is ReprIs.none _ _ _⟩⟩
  | _, _, .bl b, _, r => by
    cases r
    exact ⟨⟨_, Reads.bool b⟩, fun _ _ => ⟨[], (fun _ z => nomatch z), by rw [PyData.shown]; exact .of_is (ReprIs.bool b) _ _ _⟩⟩
  | _, _, .int i, _, r => Shown.key (k := .inl i) (by obtain ⟨t, rfl⟩ := r; exact keyIs_int i t)
  | _, _, .str x, _, r => Shown.key (k := .inr x) (by obtain ⟨t, rfl⟩ := r; exact keyIs_str x t)
  | _, _, .lst (a := a) (xs := xs) h t, _, r => by
    cases r
    obtain ⟨_, its, n, rv, g⟩ := (show ObjOk X.prog X.w H s.heap a (.lst xs) from I.hok a _ h)
    exact Shown.list g rfl rfl (DtAll.shown I t rv)
  | _, _, .tup (a := a) (xs := xs) h t, _, r => by
    cases r
    obtain ⟨_, its, rv, o, g, c, n, e⟩ := (show ObjOk X.prog X.w H s.heap a (.tup xs) from I.hok a _ h)
    exact Shown.tuple g c e (DtAll.shown I t rv)
  | _, _, .dct (a := a) (kvs := kvs) (es := ds) h t, _, r => by
    cases r
    obtain ⟨_, sys, us, kv, o, es, ep, g, ex, e, _, ps, _⟩ := (show ObjOk X.prog X.w H s.heap a (.dK kvs) from I.hok a _ h)
    obtain ⟨s1, s2⟩ := shown_pairs kv ps (fun i k v u q r => DtKv.shown I t i k v u q r) (DtKv.len t)
    exact Shown.dict g ex.1 e sys s1 s2
theorem DtAll.shown (I : Inv X pins σ H s) : ∀ {vs : List V} {ds : List PyData}, DtAll H vs ds → ∀ {us : List Value}, Vals vs us → ShownAll X.prog X.w s.heap us ds
  | _, _, .nil, _, r => by
    cases r
    exact .nil
  | _, _, .cons h t, _, r => by
    cases r with
    | cons r1 r2 => exact .cons (Dt.shown I h r1) (DtAll.shown I t r2)
theorem DtKv.shown (I : Inv X pins σ H s) : ∀ {kvs : List (Key × V)} {ds : List (PyData × PyData)}, DtKv H kvs ds → ∀ (i : Nat) (k : Key) (v : V) (u : Value), kvs[i]? = some (k, v) → RelV v u → ∃ d, ds[i]? = some (kD k, d) ∧ Shown X.prog X.w s.heap u d
  | _, _, .nil, _, _, _, _, q, _ => by simp at q
  | _, _, .cons h t, 0, k, v, u, q, r => by
    simp at q
    obtain ⟨rfl, rfl⟩ := q
    exact ⟨_, rfl, Dt.shown I h r⟩
  | _, _, .cons h t, i + 1, k, v, u, q, r => by
    obtain ⟨d, g1, g2⟩ := DtKv.shown I t i k v u (by simpa using q) r
    exact ⟨d, by simpa using g1, g2⟩
end
end
end Cr
/-! Cr, part 3: repr as a rule; zip of a text and a tuple. -/
namespace Cr
open PySem PySem.Spec PyProof.Rows L2 Evl
/-- data whose text is short enough -/
structure Fits (d : PyData) : Prop where
  show1 : d.showable = true
  deep : d.depth ≤ 50
  size : d.shown.length ≤ sizeLine
def rRepr : List V → Hp → VK → Prop := fun xs H Q => ∃ v d, xs = [v] ∧ Dt H v d ∧ Fits d ∧ Q (.str d.shown) H
theorem call_reprG {X : Cx} (hq : Quiet X.A) (hu : X.A.units + 64 < cLine) : CallR X (.builtin "repr") rRepr := by
  intro pins s σ H xs us Q I r h
  obtain ⟨v, d, rfl, hd, fit, q⟩ := h
  obtain ⟨u, rfl, ru⟩ := vals1 r
  have fin : ∀ (h' : Heap) (t tk : Nat), (∀ b o, s.heap.get? b = some o → h'.get? b = some o) → EP X pins σ Q (.str d.shown t) { s with heap := h', toks := tk } :=
    fun h' t tk hk => ⟨.str d.shown, H, I.kept hk, ⟨t, rfl⟩, q⟩
  have dp := fit.deep
  have sz := fit.size
  have sw := fit.show1
  cases hd with
  | non =>
    cases ru
    rw [PyData.shown] at q
    exact PySem.P.repr_of_none ⟨.str _, H, I.tok _, ⟨_, rfl⟩, q⟩
  | bl b =>
    cases ru
    rw [PyData.shown] at q
    exact PySem.P.repr_of_bool ⟨.str _, H, I.tok _, ⟨_, by cases b <;> rfl⟩, q⟩
  | int i =>
    obtain ⟨t, rfl⟩ := ru
    rw [PyData.shown] at q
    exact PySem.P.repr_of_int (by simpa [PyData.showable] using sw) ⟨.str _, H, I.tok _, ⟨_, rfl⟩, q⟩
  | str x =>
    obtain ⟨t, rfl⟩ := ru
    rw [PyData.shown] at q sz
    exact PySem.P.repr_of_str ⟨.str _, H, I.tok _, ⟨_, rfl⟩, q⟩ sz
  | @lst a xs ds h t =>
    cases ru
    obtain ⟨_, its, n, rv, g⟩ := (show ObjOk X.prog X.w H s.heap a (.lst xs) from I.hok a _ h)
    have S : ShownAll X.prog X.w s.heap its ds := DtAll.shown I t rv
    obtain ⟨⟨as, ra⟩, sa⟩ := S
    rw [PyData.showable] at sw
    rw [PyData.depth] at dp
    have R : Reads s.heap (.ref a) (.list ds) (a :: as) := .list g rfl rfl (by simpa using ra)
    rw [PyData.shown] at sz
    obtain ⟨bs, m, k⟩ := sa sw fun t ht => Nat.le_trans (listText_mem_le ht) sz
    have no : a ∉ bs := not_mem_of_deeper R (by rw [PyData.depth]; omega) m
    refine call_repr_slot (by omega) ⟨_, g, rfl⟩ F.slot_list_repr.toG ?_
    cases its with
    | nil =>
      cases ra
      refine call_list_repr_empty ⟨_, g, rfl⟩ g rfl ?_
      refine ⟨_, _, rfl, ?_⟩
      have e : (PyData.list []).shown = ("[]" : Str) := by rw [PyData.shown, PyData.shownAll, listText_nil]
      rw [e] at fin
      exact fin s.heap _ _ fun _ _ z => z
    | cons x l =>
      refine call_list_reprK (s := s) g rfl rfl no (by simpa using k.length_eq) (fun i y e => k.item i y (by simpa using e)) hq (fun b _ => Clear.nil b) (show X.A.units + 1 + (PyData.depthAll ds + 1) < cLine by omega) (fun _ _ z => z) (fun h' t tk hk => ?_) sz
      refine ⟨_, _, rfl, ?_⟩
      have z := fin h' t tk hk
      rw [PyData.shown] at z
      exact z
  | @tup a xs ds h t =>
    cases ru
    obtain ⟨_, its, rv, o, g, c, n, e⟩ := (show ObjOk X.prog X.w H s.heap a (.tup xs) from I.hok a _ h)
    have S : ShownAll X.prog X.w s.heap its ds := DtAll.shown I t rv
    obtain ⟨⟨as, ra⟩, sa⟩ := S
    rw [PyData.showable] at sw
    rw [PyData.depth] at dp
    have R : Reads s.heap (.ref a) (.tuple ds) as := .tuple g c e (by simpa using ra)
    rw [PyData.shown] at sz
    obtain ⟨bs, m, k⟩ := sa sw fun t ht => Nat.le_trans (tupleText_mem_le ht) sz
    have no : a ∉ bs := not_mem_of_deeper R (by rw [PyData.depth]; omega) m
    refine call_repr_slot (by omega) ⟨_, g, c⟩ F.slot_tuple_repr ?_
    refine call_tuple_reprK (s := s) g c e no (by simpa using k) hq (fun b _ => Clear.nil b) (show X.A.units + 1 + (PyData.depthAll ds + 1) < cLine by omega) (fun _ _ z => z) (fun h' t tk hk => ?_) sz
    refine ⟨_, _, rfl, ?_⟩
    have z := fin h' t tk hk
    rw [PyData.shown] at z
    exact z
  | @dct a kvs ds h t =>
    cases ru
    obtain ⟨_, sys, us, kv, o, es, ep, g, ex, e, _, ps, _⟩ := (show ObjOk X.prog X.w H s.heap a (.dK kvs) from I.hok a _ h)
    obtain ⟨s1, s2⟩ := shown_pairs kv ps (fun i k v u q r => DtKv.shown I t i k v u q r) (DtKv.len t)
    obtain ⟨⟨as, ra⟩, sa⟩ := s1
    obtain ⟨⟨bs, rb⟩, sb⟩ := s2
    rw [PyData.showable] at sw
    rw [PyData.depth] at dp
    have R : Reads s.heap (.ref a) (.dict ds) (a :: as ++ bs) := .dict g ex.1 e ra rb
    have sz2 := sz
    rw [PyData.shown] at sz
    obtain ⟨w1, w2⟩ := PyData.showableKv_split ds sw
    obtain ⟨b1, m1, k1⟩ := sa w1 fun t ht => let ⟨p, hp, hl⟩ := PyData.shownKv_key_le ds t ht; Nat.le_trans hl (Nat.le_trans (dictText_mem_le hp) sz)
    obtain ⟨b2, m2, k2⟩ := sb w2 fun t ht => let ⟨p, hp, hl⟩ := PyData.shownKv_val_le ds t ht; Nat.le_trans hl (Nat.le_trans (dictText_mem_le hp) sz)
    have m := (m1.mono (PyData.depthAll_keys_le ds)).append (m2.mono (PyData.depthAll_vals_le ds))
    refine call_repr_slot (by omega) ⟨_, g, ex.1⟩ F.slot_dict_repr ?_
    refine call_dict_reprK (s := s) g ex.1 e sys (not_mem_of_deeper R (by rw [PyData.depth]; omega) m) (ReprEntriesK.of_two es.toList _ _ (k1.more_le (fun b hb => List.mem_append_left _ hb) (PyData.depthAll_keys_le ds)) (k2.more_le (fun b hb => List.mem_append_right _ hb) (PyData.depthAll_vals_le ds)))
      hq (fun b _ => Clear.nil b) (show X.A.units + 1 + (PyData.depthKv ds + 1) < cLine by omega) (fun _ _ z => z) (fun h' t tk hk => ?_) (by rw [← PyData.shownKv_eq]; exact sz)
    refine ⟨_, _, rfl, ?_⟩
    have z := fin h' t tk hk
    rw [PyData.shown, PyData.shownKv_eq] at z
    exact z
end Cr
/-! Cr, part 4: zip of a text and a tuple; comprehensions over any walk. -/
namespace Cr
open PySem PySem.Spec PyProof.Rows L2 Evl
/-- a comprehension over any walk, which may be one of new things -/
theorem el_lcW {wi : TI} {g : TG} {tt : TT} {te : TE} {vs : List Nat} {σ : L2.St} {H : Hp} {n : Nat} {Y : Nat → Hp → V → Hp → Prop}
    (f : Nat → Bool) (v : Nat → V) (hn : n ≤ 40000)
    (hi : ∀ H1, Ex H H1 → ∀ R : It → Hp → Prop, (∀ H2 (J : It) (G : Hp → Prop), Walk J n G Y → (∀ H3 H4, Ex H3 H4 → G H3 → G H4) → Ex H1 H2 → G H2 → R J H2) → wi σ H1 R)
    (hs : ∀ i x H1 H2, Ex H H1 → i < n → Y i H1 x H2 → Ex H1 H2 ∧ ∃ σ2, wipe σ2 vs = wipe σ vs ∧ (∀ R : L2.St → Hp → Prop, R σ2 H2 → g x (wipe σ vs) H2 R) ∧ EvT tt σ2 H2 (f i) ∧ (f i = true → Ev te σ2 H2 (v i))) :
    EvL (tLc wi g tt te vs) σ H (given n f v) := by
  intro H0 e Q q
  refine hi H0 e _ fun H1 J G w hG e1 g1 D hD => ?_
  refine lc_it w (Cw H1 f v D) ⟨hD, Ex.new hD, upd_same⟩ (fun i H2 _ p => hG H1 H2 p.2.1 g1) (fun i x H2 H3 hlt p y => ?_) (fun H2 p => q D H2 (fresh_back e1 p.1) (e1.trans p.2.1) p.2.2)
  obtain ⟨p1, p2, p3⟩ := p
  obtain ⟨e2, σ2, hw, hgo, ht, he⟩ := hs i x H2 H3 ((e.trans e1).trans p2) hlt y
  refine hgo _ ⟨hw, ht H3 (Ex.refl H3) _ fun H4 e4 => ?_⟩
  cases hf : f i with
  | true =>
    rw [if_pos rfl]
    refine he hf H4 e4 _ fun H5 e5 => ⟨given i f v, e5 D _ (e4 D _ (e2 D _ p3)), sz_lt (by have := given_len i f v; omega), p1, Ex.mut (((p2.trans e2).trans e4).trans e5) p1, ?_⟩
    rw [given_yes hf]
    exact upd_same
  | false =>
    rw [if_neg Bool.false_ne_true]
    refine ⟨p1, (p2.trans e2).trans e4, ?_⟩
    rw [given_no hf]
    exact e4 D _ (e2 D _ p3)
end Cr
/-! Cr, part 5: small data, promises of one datum, evaluations that serve many defs. -/
namespace Cr
open PySem PySem.Spec PyProof.Rows L2 Evl
mutual
/-- texts and sequences of moderate size -/
def sm : PyData → Bool
  | .none | .bool _ | .int _ => true
  | .str x => decide (x.length ≤ 1000)
  | .list xs | .tuple xs => decide (xs.length ≤ 1000) && smAll xs
  | .dict _ => true
def smAll : List PyData → Bool
  | [] => true
  | x :: xs => sm x && smAll xs
end
/-- a def that answers a datum with a bool -/
def spD (f : PyData → Bool) : Sp := fun vs H Q _ => ∃ v d, vs = [v] ∧ Dt H v d ∧ sm d = true ∧ ∀ H', Ex H H' → Q (.bl (f d)) H'
theorem spD_len {f : PyData → Bool} : ∀ vs H Q E, spD f vs H Q E → vs.length = 1 := fun vs H Q E h => by
  obtain ⟨v, d, rfl, _⟩ := h
  rfl
theorem spv_D {f : PyData → Bool} {H : Hp} {v : V} {d : PyData} (h : Dt H v d) (s : sm d = true) : SpV (spD f) [v] H (.bl (f d)) := fun H1 e Q q E =>
  ⟨v, d, rfl, Dt.ex e h, s, q⟩
section
variable {K : PySem.W.Frag} {σ : L2.St} {H : Hp} {ta tb tc te : TE} {x y z w v : V} {r r' : R2}
theorem ev_chain {k k' : Bool} (ha : Ev ta σ H x) (hb : Ev tb σ H y) (hr : RV r x y H (.bl k)) (hc : k = true → Ev tc σ H w) (hr' : k = true → RV r' y w H (.bl k')) : Ev (tChain r r' ta tb tc) σ H (.bl (k && k')) := fun H1 e Q q =>
  ha H1 e _ fun H2 e2 => hb H2 (e.trans e2) _ fun H3 e3 => hr H3 ((e.trans e2).trans e3) _ fun H4 e4 => ⟨k, rfl, by
    have e14 := (e2.trans e3).trans e4
    cases k with
    | true =>
      rw [if_pos rfl]
      exact hc rfl H4 (e.trans e14) _ fun H5 e5 => hr' rfl H5 ((e.trans e14).trans e5) Q fun H6 e6 => q H6 ((e14.trans e5).trans e6)
    | false =>
      rw [if_neg Bool.false_ne_true]
      exact q H4 e14⟩
theorem ev_all {bs : List Bool} (h : EvL te σ H (bs.map V.bl)) : Ev (tCB (rAll K) (tCons te tNil)) σ H (.bl (bs.all id)) := fun H1 e Q q =>
  h H1 e _ fun p H2 _ e2 hp => ⟨p, bs, rfl, sq_of hp, q H2 e2⟩
/-- len of a text, of a tracked tuple -/
theorem rc_lenS {s : Str} (h : s.length ≤ 1000) : RC (fun xs H Q => ∃ z, xs = [V.str z] ∧ z.length ≤ sizeLine ∧ Q (.int z.length) H) [.str s] H (.int (s.length : Int)) := fun H1 _ Q q =>
  ⟨s, rfl, sz_of (by omega), q H1 (Ex.refl H1)⟩
theorem rc_lenL {a : Addr} {xs : List V} (h : SqL K H a xs) : RC (fun vs H Q => ∃ p ys, vs = [V.ref p] ∧ (SqL K H p ys ∨ SqT K H p ys) ∧ Q (.int ys.length) H) [.ref a] H (.int (xs.length : Int)) := fun H1 e Q q =>
  ⟨a, xs, rfl, .inl (ex_l e h), q H1 (Ex.refl H1)⟩
theorem cut_tail (v : V) (xs : List V) : cutV (v :: xs) (some 1) none = xs := by
  unfold cutV
  rw [show HT.sIx (v :: xs).length 0 (some 1) = min 1 (v :: xs).length from HT.sIx_nat _ 0 1, HT.sIx_none, show min 1 (v :: xs).length = 1 by rw [List.length_cons]; omega]
  show List.take ((v :: xs).length - 1) xs = xs
  rw [List.length_cons, Nat.add_sub_cancel]
  exact List.take_length
end
/-! ### texts -/
def rLeS : R2 := fun x y H Q => ∃ i j, x = .str i ∧ y = .str j ∧ Q (.bl (!decide (j.cps.toList < i.cps.toList))) H
theorem op_leS {X : Cx} : OpR X (compareOp .LtE) rLeS := op_le_str
theorem rv_leS {i j : Str} {H : Hp} : RV rLeS (.str i) (.str j) H (.bl (!decide (j.cps.toList < i.cps.toList))) := fun H1 _ Q q => ⟨i, j, rfl, rfl, q H1 (Ex.refl H1)⟩
theorem one_lt (a b : Nat) : decide ([a] < [b]) = decide (a < b) := by
  by_cases h : a < b
  · rw [decide_eq_true h, decide_eq_true (List.cons_lt_cons_iff.mpr (.inl h))]
  · rw [decide_eq_false h, decide_eq_false]
    intro z
    rcases List.cons_lt_cons_iff.mp z with q | ⟨_, q⟩
    · exact h q
    · exact absurd q (by simp)
def isLow (c : Nat) : Bool := decide (97 ≤ c) && decide (c ≤ 122)
theorem given_all (n : Nat) (v : Nat → V) : given n (fun _ => true) v = (List.range n).map v := by
  unfold given
  rw [List.filter_eq_self.mpr (fun _ _ => rfl)]
theorem all_range {α : Type} (l : List α) (d : α) (p : α → Bool) : ((List.range l.length).map fun i => p (l.getD i d)).all id = l.all p := by
  rw [List.all_map]
  have e : ∀ n, n ≤ l.length → ((List.range n).all fun i => p (l.getD i d)) = (l.take n).all p := by
    intro n
    induction n with
    | zero => intro _; simp
    | succ n ih =>
      intro h
      rw [List.range_succ, List.all_append, ih (by omega), List.take_add_one, List.all_append]
      congr 1
      rw [List.getElem?_eq_getElem (by omega)]
      simp [List.getD, List.getElem?_eq_getElem (show n < l.length by omega)]
  have h := e l.length (Nat.le_refl _)
  rw [List.take_length] at h
  exact h
end Cr
/-! own errors whose making says super().__init__(..) first, over ValueError through classes between -/
namespace Cr
open PySem PySem.Spec PyProof.Rows L2
/-- the names of such a def -/
structure SupScope (N ps : List Str) (sc : Scope) : Prop where
  kind : sc.kind = .function
  co : sc.isCoroutine = false
  gen : sc.isGenerator = false
  nd : N.Nodup
  pre : N.take ps.length = ps
  par : ∀ x ∈ ps, sc.names.lookup x = some .local
  nocell : ∀ y ∈ sc.names, y.2 ≠ .cell
  free : ∀ y ∈ sc.names, y.2 = .free → y.1 = "__class__"
  cls : sc.names.lookup ("__class__" : Str) = some .free
  sup : sc.names.lookup ("super" : Str) = some .globalImplicit
/-- its body's context: no error leaves it -/
def cxSup (P : Program) (w : World) (K : PySem.W.Frag) (mg : Str → Option Value) (base : Heap) (N : List Str) (qual : Str) (scope : Scope) (f cda cc : Addr) (A : Around) (outer : List Env) (s : Shared) (H : Hp) : Cx where
  prog := P
  w := w
  K := K
  mg := mg
  base := base
  A := A.deeper (PySem.W.ksEnv qual scope s.heap.objs.size f (.ref cda) cc)
  N := N
  s_0 := s
  H_0 := H
  env := PySem.W.ksEnv qual scope s.heap.objs.size f (.ref cda) cc
  outer := outer
  stack := PySem.W.ksEnv qual scope s.heap.objs.size f (.ref cda) cc :: outer
  ex := []
  calm := true
  fn := fun _ => false
  pn := []
  xe := fun _ _ => False
theorem look_mem {α : Type} {x : Str} {v : α} : ∀ {l : List (Str × α)}, (l.map (·.1)).Nodup → (x, v) ∈ l → l.lookup x = some v
  | [], _, h => nomatch h
  | (y, u) :: l, nd, h => by
    rcases List.mem_cons.mp h with e | h2
    · cases e; simp [List.lookup]
    · have nd' := List.nodup_cons.mp nd
      have ne : (x == y) = false := by
        refine beq_eq_false_iff_ne.mpr fun z => nd'.1 ?_
        rw [← z]
        exact List.mem_map.mpr ⟨_, h2, rfl⟩
      simp only [List.lookup, ne]
      exact look_mem nd'.2 h2
theorem zip_rev {ps : List Str} {us : List Value} {i : Nat} {x : Str} {u : Value} (nd : ps.Nodup) (h1 : ps[i]? = some x) (h2 : us[i]? = some u) (hl : us.length = ps.length) : (ps.zip us).reverse.lookup x = some u := by
  refine look_mem ?_ ?_
  · rw [List.map_reverse]
    have e : (ps.zip us).map (·.1) = ps := List.map_fst_zip (by omega)
    rw [e]
    exact List.pairwise_reverse.mpr (List.Pairwise.imp (fun h => Ne.symm h) nd)
  · refine List.mem_reverse.mpr ?_
    refine List.mem_of_getElem? (i := i) ?_
    rw [List.getElem?_zip_eq_some]
    exact ⟨h1, h2⟩
section
variable {P : Program} {w : World} {K : PySem.W.Frag} {mg : Str → Option Value} {base : Heap}
theorem inv_sup {N ps : List Str} {qual : Str} {scope : Scope} {f cda cc : Addr} {cl : Value} {cld : Option Addr} {cv : Option Value} {csl : Array (Option Value)} {A : Around} {outer : List Env} {s : Shared} {h₁ : Heap} {tk : Nat} {H : Hp} {us : List Value} {vs : List V}
    (S : SupScope N ps scope) (hd : A.handled = none) (e0 : Env0 P w K mg base A outer s H) (hl : vs.length = ps.length) (r : Vals vs us) (hcell : K.lookup cc = some ⟨cl, cld, .cell cv, csl⟩)
    (hns : h₁.Ns s.heap.objs.size (fun x => (ps.zip us).reverse.lookup x)) (hk : ∀ b o, s.heap.get? b = some o → h₁.get? b = some o) :
    Inv (cxSup P w K mg base N qual scope f cda cc A outer s H) [] (L2.start N vs) H { s with heap := h₁, toks := tk } := by
  have hpl : ps.length ≤ N.length := by have := congrArg List.length S.pre; rw [List.length_take] at this; omega
  have noA : ∀ b : Addr, b ∉ (cxSup P w K mg base N qual scope f cda cc A outer s H).ex := fun b z => absurd (show b ∈ ([] : List Addr) from z) (by simp)
  have one : ∀ {y : Str} {c : Addr}, ([("__class__", cc)] : List (Str × Addr)).lookup y = some c → y = "__class__" ∧ c = cc := fun {y c} h => by
    by_cases z : y = "__class__"
    · subst z
      simp [List.lookup] at h
      exact ⟨rfl, h.symm⟩
    · have e : (y == ("__class__" : Str)) = false := beq_eq_false_iff_ne.mpr z
      simp [List.lookup, e] at h
  have hb := e0.mod.kin _ _ hcell
  have hc1 := e0.bs _ _ hb
  refine ⟨⟨e0.mod, S.kind, rfl, rfl, Nat.le_refl _, fun y z c h1 h2 => (one h1).1.trans (one h2).1.symm, fun y hy => ?_, fun y c z _ => absurd (show false = true from z) (by decide), fun _ => hd, Around.frames_deeper e0.frames, .inr ⟨rfl, rfl⟩, fun b z => absurd z (noA b), e0.bs, e0.bsz, fun b _ _ => noA b, fun b z => absurd z (noA b), e0.funs, e0.frf⟩,
    rfl, e0.bare, Un.kept hk, ⟨_, hns, fun i y v h1 h2 h3 => ?_⟩, fun y c h => ?_, e0.hok.fresh (Nat.le_refl _), fun y c h => ?_, fun p hp => absurd (show p ∈ ([] : List (Addr × Obj)) from hp) (by simp), e0.hok.kept hk, ?_⟩
  · have hy : scope.names.lookup y = some .cell ∨ scope.names.lookup y = some .free := hy
    rcases hy with hy | hy
    · exact absurd rfl (S.nocell _ (PySem.mem_of_lookup hy))
    · have e := S.free _ (PySem.mem_of_lookup hy) rfl
      have e : y = "__class__" := e
      subst e
      exact ⟨cc, by show ([(("__class__" : Str), cc)] : List (Str × Addr)).lookup ("__class__" : Str) = _; simp [List.lookup]⟩
  · have hi : i < vs.length := by
      unfold L2.start at h2
      by_cases hi : i < vs.length
      · exact hi
      · rw [List.getElem?_append_right (by simpa using hi)] at h2
        rw [List.getElem?_replicate] at h2
        split at h2 <;> cases h2
    have ha : vs[i]? = some v := by
      unfold L2.start at h2
      rw [List.getElem?_append_left (by simpa using hi), List.getElem?_map] at h2
      cases e : vs[i]? with
      | none => rw [e] at h2; cases h2
      | some a => rw [e] at h2; cases h2; rfl
    obtain ⟨u, hu, rv⟩ := r.get ha
    have hp : ps[i]? = some y := by
      rw [← S.pre, List.getElem?_take_of_lt (by omega)]; exact h1
    have ndP : ps.Nodup := by rw [← S.pre]; exact S.nd.sublist (List.take_sublist _ _)
    exact ⟨u, rv, .inl ⟨S.par y (List.mem_of_getElem? hp), zip_rev ndP hp hu (r.length.symm.trans hl)⟩⟩
  · obtain ⟨_, rfl⟩ := one h
    exact ⟨cv, _, hk _ _ hc1.1, rfl⟩
  · obtain ⟨_, rfl⟩ := one h
    exact hc1.2
  · unfold L2.start
    show _ = N.length
    rw [List.length_append, List.length_map, List.length_replicate]
    omega
end
end Cr
/-! own errors over a built-in error that has no __new__ of its own (KeyError: the one of LookupError) -/
namespace Cr
open PySem PySem.Sem
/-- what the tail of the chain must have -/
structure TailOk (B : String) (l : List Value) : Prop where
  has : l.contains (.type B) = true
  noA : l.contains (.type "AttributeError") = false
  noN : l.contains (.type "NameError") = false
section
variable {prog : Program} {w : World} {A : Around} {E : Value → Shared → Prop} {R : Result → Shared → Prop} {h : Heap} {g : Array GenState} {d : Drawn} {t : Nat} {os : OsState}
variable {nm q : Str} {C N : Addr} {bs bm tl : List Value} {hdct : Bool} {sn : List Str} {sub : List Value} {ab : Bool} {col : Option Bool} {dd : Option Addr} {k0 k1 k2 k3 k5 : Option Value} {B nw ini : String}
theorem TailOk.up {l : List Value} {c : Addr} {B : String} (T : TailOk B l) : TailOk B (.ref c :: l) :=
  ⟨by rw [List.contains_cons, T.has, Bool.or_true], by rw [List.contains_cons, T.noA]; rfl, by rw [List.contains_cons, T.noN]; rfl⟩
/-- the look ahead of __new__ -/
theorem chkNew (F : ExcBaseFacts B nw ini tl) (T : TailOk B (.ref C :: bm)) {M : Model} {us : List Value} {Q : Unit → Shared → Prop}
    (at_ : h.get? C = some (excClassObj nm q C N bs bm hdct sn sub ab col dd k0 k1 k2 k3 k5 nw)) (z : Q () ⟨h, g, d, t, os⟩) : wpAny M A (checkBuiltinCall nw ⟨.ref C :: us, []⟩) Q E ⟨h, g, d, t, os⟩ := by
  have e1 := T.has
  have e2 := F.noStar
  simp only [checkBuiltinCall, F.newKind, F.newSplit, F.newRow]
  repeat (first | refine wpAny_loadPart_at at_ ?_ | (refine wpAny_isSubtype_exc at_ ?_; rw [e1]) | refine wpAny_staticBase_exc at_ ?_ | refine wpAny_madeBy_exc at_ ?_ | simp only [bne_self_eq_false, Bool.false_eq_true, if_false] | wp_step)
  exact z
/-- __new__ itself -/
theorem runNew (F : ExcBaseFacts B nw ini tl) (T : TailOk B (.ref C :: bm)) {us : List Value} (at_ : h.get? C = some (excClassObj nm q C N bs bm hdct sn sub ab col dd k0 k1 k2 k3 k5 nw))
    (z : R (.ok (.ret (.ref (h.objs.size + 1)))) ⟨(h.push (PySem.W.kdv_tup us)).push (PySem.HandSPX.excO C h.objs.size), g, d, t, os⟩) (few : us.length ≤ sizeLine) :
    codeAny (model prog w) A (.builtin nw ⟨.ref C :: us, []⟩) R ⟨h, g, d, t, os⟩ := by
  have e0 := F.ends
  have e1 := T.has
  have e2 := T.noA
  have e3 := T.noN
  refine codeAny_builtinAt F.entry ?_
  unfold Builtin.«BaseException.__new__»
  refine wpAt_bind ?_
  show wpAt _ _ _ (stack >>= _) _ _ _
  refine wpAt_bind (wpAt_stack fun _ _ => wpAt_of_wpAny ?_)
  wp_walk
  refine wpAt_of_wpAny ?_
  rw [F.owner]
  repeat (first | with_reducible refine wpAny_madeHere_exc F.canon at_ ?_ | with_reducible refine wpAny_loadPart_at at_ ?_ | (with_reducible refine wpAny_isSubtype_exc at_ ?_; first | rw [e1] | rw [e2] | rw [e3]) | wp_step)
  show R _ _
  rw [Heap.size_push]
  exact z
/-- type.__call__: __new__, then the own __init__ -/
theorem typeCall2 (F : ExcBaseFacts B nw ini tl) (T : TailOk B (.ref C :: bm)) {us : List Value} {fI : Addr} {Q : Fin → Shared → Prop} (at_ : h.get? C = some (excClassObj nm q C N bs bm hdct sn sub ab col dd k0 k1 k2 k3 k5 nw))
    (hi : PySem.W.Looks (model prog w) h (typeLookup (.ref C) "__init__") (some (.ref fI))) (hb : ∀ self, PySem.W.Looks (model prog w) h (bindSpecial (.ref fI) self) (.ref fI, [self])) (few : us.length ≤ sizeLine)
    (z : codeAny (model prog w) A (.call (.ref fI) ⟨.ref (h.objs.size + 1) :: us, []⟩) (fun r s' => match r with | .ok (.ret v) => v = .none ∧ Q (.done (.ret (.ref (h.objs.size + 1)))) s' | .ok _ => False | .error e => E e s')
      ⟨(h.push (PySem.W.kdv_tup us)).push (PySem.HandSPX.excO C h.objs.size), g, d, t, os⟩) :
    wpAny (model prog w) A (Builtin.«type.__call__» ⟨.ref C :: us, []⟩) Q E ⟨h, g, d, t, os⟩ := by
  repeat (first | with_reducible refine wpAny_loadPart_at at_ ?_ | with_reducible refine wpAny_madeBy_exc at_ ?_ | wp_step)
  refine codeAny_call_builtin_code (Code.quiet_builtin _ F.quiet) (chkNew F T at_ (runNew F T at_ ?_ few))
  show wpAny _ _ _ _ _ _
  have kp : ∀ b o, h.get? b = some o → ((h.push (PySem.W.kdv_tup us)).push (PySem.HandSPX.excO C h.objs.size)).get? b = some o := fun b o e => Heap.get?_push_of_some _ (Heap.get?_push_of_some _ e)
  have at1 := kp _ _ at_
  have here : ((h.push (PySem.W.kdv_tup us)).push (PySem.HandSPX.excO C h.objs.size)).get? (h.objs.size + 1) = some (PySem.HandSPX.excO C h.objs.size) := by heap_get
  have own : (Value.ref C :: bm).contains (.ref C) = true := by simp
  have i1 := hi.keeps kp
  have b1 := (hb (.ref (h.objs.size + 1))).keeps kp
  unfold isInstance
  repeat (first | with_reducible refine wpAny_loadPart_at here ?_ | (with_reducible refine wpAny_isSubtype_exc at1 ?_; rw [own]) | wp_step)
  show wpAny _ _ (typeLookup (.ref C) _) _ _ _
  refine i1.at (wpAny_holding (wpAny_bind (b1.at ?_)))
  refine wpAny_bind (wpAny_call (codeAny_mono z fun r s' y => ?_))
  rcases r with e | (v | _ | _ | _) <;> first | exact y | exact y.elim | skip
  obtain ⟨rfl, y⟩ := y
  first
    | exact wpAny_pure (wpAny_pure y)
    | (wp_walk; exact y)
/-- the class is called -/
theorem call2 (F : ExcBaseFacts B nw ini tl) (T : TailOk B (.ref C :: bm)) {us : List Value} {fI : Addr} (at_ : h.get? C = some (excClassObj nm q C N bs bm hdct sn sub ab col dd k0 k1 k2 k3 k5 nw))
    (hi : PySem.W.Looks (model prog w) h (typeLookup (.ref C) "__init__") (some (.ref fI))) (hb : ∀ self, PySem.W.Looks (model prog w) h (bindSpecial (.ref fI) self) (.ref fI, [self])) (few : us.length ≤ sizeLine)
    (z : codeAny (model prog w) (A.under (.builtin "type.__call__" ⟨.ref C :: us, []⟩)) (.call (.ref fI) ⟨.ref (h.objs.size + 1) :: us, []⟩) (PySem.W.InitBack (h.objs.size + 1) R) ⟨(h.push (PySem.W.kdv_tup us)).push (PySem.HandSPX.excO C h.objs.size), g, d, t, os⟩) :
    codeAny (model prog w) A (.call (.ref C) ⟨us, []⟩) R ⟨h, g, d, t, os⟩ := by
  have f1 := tc_lookup
  have f2 := tc_bind (.ref C)
  have ty : (⟨h, g, d, t, os⟩ : Shared).TypeIs (.ref C) "type" := ⟨_, at_, rfl⟩
  refine codeAny_of_tree ?_
  show wpAny _ _ (callAny (.ref C) _) _ _ _
  repeat (any_goals (first | assumption | with_reducible refine wpAny_loadPart_at at_ ?_ | wp_step))
  refine ⟨rfl, ?_⟩
  refine codeAny_call_builtin_at (Code.quiet_builtin _ (by decide +kernel)) entry_typeCall (wpAny_check_type_call_sub at_ (typeCall2 F T at_ hi hb few ?_))
  refine codeAny_mono z fun r s' y => ?_
  rcases r with e | (v | _ | _ | _) <;> exact y
end
/-- what is asked of the __init__ of a built-in error -/
structure IniF (B ini : String) : Prop where
  plain : plainId ini = true
  entry : entryFor table ini = some Builtin.«BaseException.__init__»
  kind : builtinKind ini = some .slot
  row : Manifest.signature? ini = some ⟨.positional, "*", B, .self, [⟨"args", .varPos, false⟩]⟩
  star : (B != "*") = true
theorem iniOf {B nw ini : String} (F : ExcCallFacts B nw ini) : IniF B ini := ⟨F.init.plain, F.initEntry, F.initKind, F.initRow, F.noStar⟩
section
variable {M : Model} {A : Around} {E : Value → Shared → Prop} {h : Heap} {g : Array GenState} {d : Drawn} {t : Nat} {os : OsState}
/-- the look ahead of a bound __init__ -/
theorem chkIni {B ini nw : String} (F : IniF B ini) {nm q : Str} {C N e : Addr} {oe : Obj} {bs bm : List Value} {hdct : Bool} {sn : List Str} {sub : List Value} {ab : Bool} {col : Option Bool} {dd : Option Addr} {k0 k1 k2 k3 k5 : Option Value} {us : List Value} {Q : Unit → Shared → Prop}
    (at_ : h.get? C = some (excClassObj nm q C N bs bm hdct sn sub ab col dd k0 k1 k2 k3 k5 nw)) (he : h.get? e = some oe) (hcls : oe.cls = .ref C) (z : Q () ⟨h, g, d, t, os⟩) : wpAny M A (checkBoundCall ini ⟨.ref e :: us, []⟩) Q E ⟨h, g, d, t, os⟩ := by
  have st := F.star
  simp only [checkBoundCall, F.kind, F.row]
  repeat (first | (with_reducible refine wpAny_loadPart_at he ?_; rw [hcls]) | with_reducible refine wpAny_loadPart_at at_ ?_ | wp_step)
  refine wpAny_onRaise ?_
  rw [show ∀ (a b : String) (n : Nat), Bind.check ⟨.positional, "*", B, .self, [⟨"args", .varPos, false⟩]⟩ a b n (List.map (fun x => x.fst) ({ pos := Value.ref e :: us } : Args).kw) = pure () from fun a b n => check_star_args _ _ _ _ _ _]
  exact wpAny_pure z
end
end Cr
/-! own errors over any built-in error: fields stored, the making, super().__init__(..) -/
namespace Cr
open PySem PySem.Spec PyProof.Rows L2
open Builtin Builtin.ObjectAttr
/-- a built-in error: its name, its __new__ and __init__, its chain -/
structure XB where
  B : String
  nw : String
  ini : String
  tl : List Value
structure XB.Ok (b : XB) : Prop where
  made : ∃ Bn inN tlN, ExcBaseFacts Bn b.nw inN tlN ∧ TailOk Bn b.tl
  inif : IniF b.B b.ini
  sup : PySem.W.KxsFacts b.B b.ini
  free : ∀ self : Value, refuseLoop self "__setattr__" b.tl = pure ()
  obj : b.tl.contains (.type "object") = true
abbrev xbV : XB := ⟨"ValueError", "ValueError.__new__", "ValueError.__init__", [.type "ValueError", .type "Exception", .type "BaseException", .type "object"]⟩
theorem ok_xb {b : XB} (F : ExcBaseFacts b.B b.nw b.ini b.tl) (s : PySem.W.KxsFacts b.B b.ini) (f : ∀ self : Value, refuseLoop self "__setattr__" b.tl = pure ()) (o : b.tl.contains (.type "object") = true) : b.Ok :=
  ⟨⟨_, _, _, F, F.hasB, F.noAttr, F.noName⟩, iniOf F.toExcCallFacts, s, f, o⟩
theorem xbV_ok : xbV.Ok := ok_xb F.excBase_ValueError PySem.W.kxs_ValueError F.store_ValueError.passes (by decide +kernel)
/-- own classes, then the chain -/
def downTo (tl : List Value) : List Value → Bool
  | .ref _ :: r => downTo tl r
  | l => l == tl
theorem down_or {tl l : List Value} (h : downTo tl l = true) : (∃ c r, l = .ref c :: r ∧ downTo tl r = true) ∨ l = tl := by
  unfold downTo at h
  split at h
  · exact .inl ⟨_, _, rfl, h⟩
  · exact .inr (beq_iff_eq.mp h)
theorem down_free {tl : List Value} (self : Value) (ht : refuseLoop self "__setattr__" tl = pure ()) : ∀ l : List Value, downTo tl l = true → refuseLoop self "__setattr__" l = pure ()
  | [], h => by
    rcases down_or h with ⟨_, _, z, _⟩ | rfl
    · cases z
    · exact ht
  | v :: r, h => by
    rcases down_or h with ⟨c, r', z, k⟩ | z
    · cases z
      rw [refuseLoop_ref]
      exact down_free self ht r k
    · rw [z]
      exact ht
theorem down_has {tl : List Value} (Y : String) : ∀ l : List Value, downTo tl l = true → l.contains (.type Y) = tl.contains (.type Y)
  | [], h => by
    rcases down_or h with ⟨_, _, z, _⟩ | rfl
    · cases z
    · rfl
  | v :: r, h => by
    rcases down_or h with ⟨c, r', z, k⟩ | z
    · cases z
      rw [List.contains_cons, down_has Y r k]
      rfl
    · rw [z]
theorem XB.Ok.tail {b : XB} (h : b.Ok) {C : Addr} {bm : List Value} (d : downTo b.tl bm = true) : ∃ Bn inN tlN, ExcBaseFacts Bn b.nw inN tlN ∧ TailOk Bn (.ref C :: bm) := by
  obtain ⟨Bn, inN, tlN, F, T⟩ := h.made
  refine ⟨Bn, inN, tlN, F, TailOk.up ⟨?_, ?_, ?_⟩⟩
  · rw [down_has _ _ d]; exact T.has
  · rw [down_has _ _ d]; exact T.noA
  · rw [down_has _ _ d]; exact T.noN
/-- what the written part says of an own error's class -/
structure OexG (K : PySem.W.Frag) (C : Addr) (b : XB) : Prop where
  ok : b.Ok
  cls : ∃ nm q N bs bm sn sub ab col dd k0 k1 k2 k3 k5, K.lookup C = some (excClassObj nm q C N bs bm true sn sub ab col dd k0 k1 k2 k3 k5 b.nw) ∧ downTo b.tl bm = true
  sa : PySem.W.findIn K (.ref C) "__setattr__" = some (some (.builtin "object.__setattr__"))
  exC : PySem.W.subIn K (.ref C) (.type "BaseException") = some true
  tyC : PySem.W.typeIn K (.ref C) = some (.type "type")
  kC : PySem.W.keepIn K (.ref C) = true
section
variable {prog : Program} {w : World} {A : Around} {R : Result → Shared → Prop} {hp : Heap} {g : Array GenState} {d : Drawn} {t : Nat} {os : OsState}
/-- the way of object.__setattr__ up to the own dict -/
theorem osaG {K : PySem.W.Frag} {name : Str} {tk : Tok} {v : Value} {x C : Addr} {ox : Obj} {od : Option Obj} {cd : ClassData} {b : XB} (hb : b.Ok) (X : K.In hp) (I : PySem.W.InstAt hp x ox C od) (hcd : PySem.W.clsIn K C = some cd) (hm : downTo b.tl cd.mro = true) (ha : PySem.W.findIn K (.ref C) name = some none)
    (go : ∀ Q : Fin → Shared → Prop, (∀ s', R (.ok (.ret .none)) s' → Q (.done (.ret .none)) s') → wpAny (model prog w) A.in1 (storeInOwnDict (.ref x) (.ref C) (.str name tk) name v false) Q (fun e s' => R (.error e) s') ⟨hp, g, d, t, os⟩) :
    codeAny (model prog w) A (.call (.builtin "object.__setattr__") ⟨[.ref x, .str name tk, v], []⟩) R ⟨hp, g, d, t, os⟩ := by
  have SF := F.store_object
  have has : cd.mro.contains (.type "object") = true := (down_has "object" _ hm).trans hb.obj
  have full : cd.mro.isEmpty = false := by
    cases e : cd.mro with
    | nil => rw [e] at has; exact absurd has (by decide)
    | cons _ _ => rfl
  have isO : PySem.W.Looks (model prog w) hp (isInstance (.ref x) (.type "object")) true := I.type.andThen (PySem.W.looks_mroIn X (by unfold PySem.W.mroIn; rw [hcd, Option.bind_some, if_neg (by rw [full]; decide), has]))
  refine codeAny_call_builtin SF.slot.plain SF.entry (@PySem.W.check_slot (model prog w) _ _ ⟨hp, g, d, t, os⟩ "object.__setattr__" "object" "__setattr__" (.ref x) [.str name tk, v] [] _ SF.kind SF.split isO (SF.args (.ref x) (.str name tk) v) ?_)
  have line : PySem.W.Looks (model prog w) hp (mroOf (.ref C)) cd.mro := (PySem.W.looks_clsIn X hcd).andThen .now
  have none_ : PySem.W.Looks (model prog w) hp (storeTaker? none) none := .now
  rw [PySem.W.osa_eq, refuse_eq]
  refine wpAny_bind (wpAny_bind (I.type.at (wpAny_bind (line.at ?_))))
  rw [down_free _ (hb.free _) _ hm]
  refine wpAny_pure (wpAny_bind (I.type.at (wpAny_bind ((PySem.W.looks_findIn X ha).at (wpAny_bind (none_.at ?_))))))
  exact go _ fun s' h => h
end
end Cr
namespace Cr
open PySem PySem.Spec PyProof.Rows L2
open Builtin Builtin.ObjectAttr
section
variable {prog : Program} {w : World} {A : Around} {R : Result → Shared → Prop} {hp : Heap} {g : Array GenState} {d : Drawn} {t : Nat} {os : OsState}
/-- the first field: the dict is made -/
theorem osaG_new {K : PySem.W.Frag} {name : Str} {tk : Tok} {v : Value} {x C : Addr} {fv : Array Value} {cd : ClassData} {b : XB} (hb : b.Ok) (X : K.In hp) (hx : hp.get? x = some { cls := .ref C, data := .fields fv }) (hcd : PySem.W.clsIn K C = some cd) (hm : downTo b.tl cd.mro = true) (hh : cd.hasDict = true)
    (ha : PySem.W.findIn K (.ref C) name = some none)
    (hq : ∀ h' tk' dx, (∀ c o, c ≠ x → hp.get? c = some o → h'.get? c = some o) → hp.objs.size ≤ dx → dx ≠ x → h'.get? x = some { cls := .ref C, dict := some dx, data := .fields fv } →
      h'.Ns1 dx (fun y => if y = name then some v else none) → R (.ok (.ret .none)) ⟨h', g, d, tk', os⟩) :
    codeAny (model prog w) A (.call (.builtin "object.__setattr__") ⟨[.ref x, .str name tk, v], []⟩) R ⟨hp, g, d, t, os⟩ := by
  refine osaG hb X (ox := { cls := .ref C, data := .fields fv }) (od := none) ⟨hx, rfl, rfl, trivial⟩ hcd hm ha fun Q hQ => ?_
  have far : x ≠ hp.objs.size := Nat.ne_of_lt (Heap.lt_size hx)
  have hc : PySem.W.Looks (model prog w) hp (classData C) cd := PySem.W.looks_clsIn X hcd
  obtain ⟨nm, bs, mro, ns, qn, hd, sn, sb, ab, col, dl⟩ := cd
  cases hh
  unfold storeInOwnDict ownDictForStores
  repeat (first | with_reducible refine PySem.HandSPX.store_in_new ?_ ?_ | with_reducible refine wpAny_loadPart_at hx ?_ | with_reducible refine hc.at ?_ | wp_step)
  · exact ⟨_, #[], _, (Heap.get?_update_ne _ _ _ _ far.symm).trans (Heap.get?_push_at rfl rfl), rfl, (fun e he => by simp at he), fun _ => rfl⟩
  · intro h' tk' hn hs
    refine hQ _ (hq h' tk' hp.objs.size (fun c o hc ho => ?_) (Nat.le_refl _) far.symm ?_ hn)
    · rw [hs.2 c (Nat.ne_of_lt (Heap.lt_size ho)), Heap.get?_update_ne _ _ _ _ hc]
      exact Heap.get?_push_of_some _ ho
    · rw [hs.2 x far]
      exact Heap.get?_update_self _ (Heap.get?_push_of_some _ hx) rfl
/-- a further field -/
theorem osaG_old {K : PySem.W.Frag} {name : Str} {tk : Tok} {v : Value} {x C dx : Addr} {fv : Array Value} {cd : ClassData} {m0 : Str → Option Value} {nl : List Str} {b : XB} (hb : b.Ok) (X : K.In hp) (hx : hp.get? x = some { cls := .ref C, dict := some dx, data := .fields fv }) (hns : hp.Ns1 dx m0) (hw : Within m0 nl) (hz : nl.length ≤ 1000)
    (hcd : PySem.W.clsIn K C = some cd) (hm : downTo b.tl cd.mro = true) (hh : cd.hasDict = true) (ha : PySem.W.findIn K (.ref C) name = some none)
    (hq : ∀ h' tk', (∀ c o, c ≠ dx → hp.get? c = some o → h'.get? c = some o) → h'.Ns1 dx (fun y => if y = name then some v else m0 y) → R (.ok (.ret .none)) ⟨h', g, d, tk', os⟩) :
    codeAny (model prog w) A (.call (.builtin "object.__setattr__") ⟨[.ref x, .str name tk, v], []⟩) R ⟨hp, g, d, t, os⟩ := by
  obtain ⟨oD, _, _, hoD, _, _⟩ := hns.count hw
  refine osaG hb X (ox := { cls := .ref C, dict := some dx, data := .fields fv }) (od := some oD) ⟨hx, rfl, rfl, hoD⟩ hcd hm ha fun Q hQ => ?_
  have hc : PySem.W.Looks (model prog w) hp (classData C) cd := PySem.W.looks_clsIn X hcd
  obtain ⟨nm, bs, mro, ns, qn, hd, sn, sb, ab, col, dl⟩ := cd
  cases hh
  unfold storeInOwnDict ownDictForStores
  repeat (first | with_reducible refine PySem.OEX.store_in_old hns hw hz ?_ | with_reducible refine wpAny_loadPart_at hx ?_ | with_reducible refine hc.at ?_ | wp_step)
  intro h' tk' hn hs
  exact hQ _ (hq h' tk' (fun c o hc ho => (hs.2 c hc).trans ho) hn)
end
section
variable {X : Cx} {pins : List (Addr × Obj)} {σ : L2.St} {H : Hp} {s : Shared} {a C dx : Addr} {b : XB} {f : Str} {y : V} {u : Value} {fs : List (Str × V)} {Q : Unit → Shared → Prop} {E : Value → Shared → Prop} {A : Around}
theorem ostG_new (T : OexG X.K C b) (I : Inv X pins σ H s) (e : H a = some (exo a C none)) (hno : PySem.W.findIn X.K (.ref C) f = some none) (ry : RelV y u)
    (h : ∀ dx s', H dx = none → dx ≠ a → Inv X pins σ (upd (upd H dx (exd dx [(f, y)])) a (exo a C (some dx))) s' → Q () s') : wpAny (model X.prog X.w) A (setAttr (.ref a) f u) Q E s := by
  obtain ⟨nm, q, N, bs, bm, sn, sub, ab, col, dd, k0, k1, k2, k3, k5, hC, hbm⟩ := T.cls
  have hcl : PySem.W.clsIn X.K C = some { name := nm, bases := bs, mro := .ref C :: bm, ns := N, qualname := q, hasDict := true, slotNames := sn, subclasses := sub, abstract := ab, collection := col, hasDel := false } := by unfold PySem.W.clsIn; rw [hC] <;> rfl
  obtain ⟨t1, ho⟩ := exo_at I.hok e
  obtain ⟨hp, g, d, t, os⟩ := s
  refine PySem.W.set_plain I.kIn (ox := { cls := .ref C, dict := none, data := .fields #[.ref t1, .none, .none, .none, .bool false, .none] }) (od := none) ⟨ho, rfl, rfl, trivial⟩ T.sa ?_
  refine osaG_new T.ok I.kIn ho hcl (show downTo b.tl (.ref C :: bm) = true from hbm) rfl hno (fun h' tk' dx k dn dne hx hn => ?_)
  have new : H dx = none := I.hok.fresh dn
  have old : ∀ {c : Addr} {o : Obj}, hp.get? c = some o → c ≠ dx := fun q => Nat.ne_of_lt (Nat.lt_of_lt_of_le (Heap.lt_size q) dn)
  have notA : ∀ {c : Addr}, H c = none → c ≠ a := fun n z => by rw [z, e] at n; cases n
  have atA : ∀ {c : Addr} {o : HO}, H c = some o → exo a C none ≠ o → upd (upd H dx (exd dx [(f, y)])) a (exo a C (some dx)) c = some o := fun q n => by
    rw [upd_ne (at_ne e q n), upd_ne (ne_of_none q new)]
    exact q
  have stays : Un X.fs [] H (upd (upd H dx (exd dx [(f, y)])) a (exo a C (some dx))) hp h' := {
    keep := fun c o q n _ _ => k c o (notA n) q
    slot := fun c o q n _ _ => ⟨o.slots, k c o (notA n) q⟩
    free := fun c o q n _ => by rw [upd_ne (notA n), upd_ne (old q)]; exact n
    there := fun c o q _ => by
      by_cases hc : c = a
      · subst hc
        exact ⟨_, hx⟩
      · exact ⟨o, k c o hc q⟩
    tups := fun c xs q => atA q exo_tup
    frzs := fun c o v q => atA q exo_frz
    tbls := fun c ps q => ⟨#[], by rw [atA q exo_tbl]; simp⟩ }
  refine h dx _ new dne (I.un (t' := tk') stays fun c o q => ?_)
  by_cases ca : c = a
  · subst ca
    rw [upd_same] at q
    cases q
    exact exo_ok hx
  rw [upd_ne ca] at q
  by_cases cd : c = dx
  · subst cd
    rw [upd_same] at q
    cases q
    exact exd_ok hn (relO_put (fs := []) ry fun _ => True.intro)
  rw [upd_ne cd] at q
  refine (I.hok c o q).stay (fun c' v hc z => k c' v ?_ z) (fun c' hc => atA hc exo_own) (fun c' xs hc => atA hc exo_tup)
  rcases hc with hc | hc
  · rw [hc]; exact ca
  · exact at_ne e hc exo_own
theorem ostG_old (T : OexG X.K C b) (I : Inv X pins σ H s) (e : H a = some (exo a C (some dx))) (ed : H dx = some (exd dx fs)) (hl : fs.length ≤ 900) (hno : PySem.W.findIn X.K (.ref C) f = some none) (ry : RelV y u)
    (h : ∀ s', Inv X pins σ (upd H dx (exd dx ((f, y) :: fs))) s' → Q () s') : wpAny (model X.prog X.w) A (setAttr (.ref a) f u) Q E s := by
  obtain ⟨nm, q, N, bs, bm, sn, sub, ab, col, dd, k0, k1, k2, k3, k5, hC, hbm⟩ := T.cls
  have hcl : PySem.W.clsIn X.K C = some { name := nm, bases := bs, mro := .ref C :: bm, ns := N, qualname := q, hasDict := true, slotNames := sn, subclasses := sub, abstract := ab, collection := col, hasDel := false } := by unfold PySem.W.clsIn; rw [hC] <;> rfl
  obtain ⟨t1, ho⟩ := exo_at I.hok e
  obtain ⟨mA, hns, rel⟩ := exd_at I.hok ed
  obtain ⟨hp, g, d, t, os⟩ := s
  obtain ⟨oD, _, _, hoD, _, _⟩ := hns.count (within_of rel)
  refine PySem.W.set_plain I.kIn (ox := { cls := .ref C, dict := some dx, data := .fields #[.ref t1, .none, .none, .none, .bool false, .none] }) (od := some oD) ⟨ho, rfl, rfl, hoD⟩ T.sa ?_
  refine osaG_old T.ok I.kIn ho hns (within_of rel) (by rw [List.length_map]; omega) hcl (show downTo b.tl (.ref C :: bm) = true from hbm) rfl hno (fun h' tk' k hn => h _ ?_)
  have there : ∃ o, h'.get? dx = some o := by
    obtain ⟨o, _, _, z, _⟩ := hn
    exact ⟨o, z⟩
  exact I.write (t' := tk') (x := dx) (e := dx) (o := exd dx ((f, y) :: fs)) (by rw [ed]; exact True.intro) (.inl rfl) k there (exd_ok hn (relO_put ry rel))
end
/-- self.f = e in an own error's __init__ -/
def tOstG (K : PySem.W.Frag) (f : Str) (to te : TE) : TS := fun D σ H => te σ H fun y H1 => to σ H1 fun x H2 => ∃ (a C : Addr) (b : XB), x = .ref a ∧ OexG K C b ∧ PySem.W.findIn K (.ref C) f = some none ∧
  ((H2 a = some (exo a C none) ∧ ∀ dx, H2 dx = none → dx ≠ a → D.nx σ (upd (upd H2 dx (exd dx [(f, y)])) a (exo a C (some dx)))) ∨
    ∃ (dx : Addr) (fs : List (Str × V)), H2 a = some (exo a C (some dx)) ∧ H2 dx = some (exd dx fs) ∧ fs.length ≤ 900 ∧ D.nx σ (upd H2 dx (exd dx ((f, y) :: fs))))
section
variable {X : Cx} {o e : Expr} {es : List Expr} {to te : TE} {ta : TA} {f : Str} {p p' pos : Pos}
theorem ps_ostG (ho : PE X o to) (he : PE X e te) (hs : swapsWith e (some (.Attribute o f p')) pos.line X.env = pure false := by rfl) : PS X (.Assign [.Attribute o f p'] e pos) (tOstG X.K f to te) := by
  constructor
  intro pins s σ H D I h
  refine plainObj_wpAny_Assign_Attribute (thn (he.run pins s σ H _ I h) ?_) hs
  rintro v s1 ⟨y, H1, I1, r1, q1⟩
  refine thn (ho.run pins s1 σ H1 _ I1 q1) ?_
  rintro u s2 ⟨x, H2, I2, r2, a, C, b, rfl, T, hno, q⟩
  obtain rfl : u = Value.ref a := r2
  rcases q with ⟨ea, q⟩ | ⟨dx, fs, ea, ed, hl, q⟩
  · exact ostG_new T I2 ea hno r1 fun dx s' n ne J => ⟨σ, _, J, q dx n ne⟩
  · exact ostG_old T I2 ea ed hl hno r1 fun s' J => ⟨σ, _, J, q⟩
/-- C(e, ..) by its own __init__, to be raised -/
theorem pmkG {CX : CXT} {x : Str} {C fI : Addr} {b : XB} {k : Nat} {fd : FuncData} {ps : List Str} {sp : Sp} {ds : List Value} {dvs : List V} (T : OexG X.K C b) (iC : PySem.W.findIn X.K (.ref C) "__init__" = some (some (.ref fI))) (tI : PySem.W.typeIn X.K (.ref fI) = some (.type "function"))
    (F1 : FnOk X.prog X.w X.K X.mg X.base CX k fI fd ps sp) (hr : Room (k + 1) X.A) (hb : Binds X.K fd ps ds) (hd : Vals dvs ds) (hx : Passes CX X (fun _ _ _ => False)) (hg : Gl X x) (hm : X.mg x = some (.ref C)) (ha : PA X (e :: es) ta)
    (hdb : (x == ("__debug__" : Str)) = false := by decide) (he : starEach (e :: es) X.env = (false, eval e X.env) :: starEach es X.env := by rfl) (hpl : (backTo pos (starEach es X.env)).any (·.1) = false := by rfl) :
    PMk X (.Call (.Name x p) (e :: es) [] pos) (tMkO C sp dvs ta) := by
  intro pins s σ H Q I h
  obtain ⟨nm, q, N, bs, bm, sn, sub, ab, col, dd, k0, k1, k2, k3, k5, hC, hbm⟩ := T.cls
  refine wpAny_Call_Name_kw (ld_glob I hg hm ?_ hdb)
  refine PySem.W.callWith_K (h₀ := X.base) I.ok.mod.kin T.kC (thn (ha.run pos pins s σ H _ I h) ?_) he hpl
  rintro us ⟨hp, g, dr, tk, os⟩ ⟨vs, H1, I1, r1, hz, q1⟩
  refine ⟨I1.kIn, ?_⟩
  show wpAny _ _ (call (.ref C) us) _ _ _
  have up : hp.objs.size ≤ hp.objs.size + 1 := Nat.le_succ _
  have go := q1 (hp.objs.size + 1) (I1.hok.fresh up)
  generalize eH : (hp.push (PySem.W.kdv_tup us)).push (PySem.HandSPX.excO C hp.objs.size) = hh
  have kk : ∀ c o, hp.get? c = some o → hh.get? c = some o := fun c o z => by rw [← eH]; exact Heap.get?_push_of_some _ (Heap.get?_push_of_some _ z)
  have here : hh.get? (hp.objs.size + 1) = some (PySem.HandSPX.excO C hp.objs.size) := by rw [← eH]; heap_get
  have I2 : Inv X pins σ (upd H1 (hp.objs.size + 1) (exo (hp.objs.size + 1) C none)) ⟨hh, g, dr, tk, os⟩ := I1.laid (t' := tk) kk up (exo_ok here)
  have rel : Vals (V.ref (hp.objs.size + 1) :: (vs ++ dvs)) (Value.ref (hp.objs.size + 1) :: (us ++ ds)) := .cons rfl (r1.append hd)
  have size : (Value.ref (hp.objs.size + 1) :: us ++ ds).length = ps.length := rel.length.symm.trans (F1.len _ _ _ _ go)
  have few : us.length ≤ sizeLine := by
    rw [← Paired.length r1, sizeLine_eq]
    omega
  obtain ⟨Bn, inN, tlN, FN, TN⟩ := T.ok.tail (C := C) hbm
  refine wpAny_call (call2 FN TN (I1.kIn _ _ hC) (PySem.W.looks_findIn I1.kIn iC) (fun self => PySem.W.bind_fn I1.kIn self tI) few ?_)
  rw [eH]
  refine codeAny_mono (F1.run _ X.stack _ _ ⟨Value.ref (hp.objs.size + 1) :: us, []⟩ (Value.ref (hp.objs.size + 1) :: (us ++ ds)) _ _ (fun _ _ _ => False) (hr.make C us []) (I2.env0.make C us []) (hb _ (Value.ref (hp.objs.size + 1) :: us) I2.kIn size) rel go) ?_
  intro r s' z
  match r, z with
  | .error er, z => exact hx pins σ _ _ er s' I2 z
  | .ok .next, z => exact False.elim z
  | .ok .brk, z => exact False.elim z
  | .ok .cont, z => exact False.elim z
  | .ok (.ret u), ⟨v, H2, os2, bare2, un2, hok2, rv, ev, d, fs, ea, ed, hd1, q2⟩ =>
    subst ev
    obtain ⟨h2, g2, d2, t2, os'⟩ := s'
    exact ⟨rv, mk_end (raises_own T.exC T.tyC) I1 up kk un2 hok2 os2 bare2 ea ed hd1 q2⟩
end
/-! ### super().__init__(..) first -/
structure SupG (P : Program) (K : PySem.W.Frag) (C cda cc : Addr) (b : XB) : Prop where
  oex : OexG K C b
  code : ∃ ccl cdd cvs ccs file tf, K.lookup cda = some ⟨ccl, cdd, .fields cvs, ccs⟩ ∧ cvs[2]? = some (.str file tf) ∧ ((P.main.file : Str) == file) = true
  cell : ∃ cl cld csl, K.lookup cc = some ⟨cl, cld, .cell (some (.ref C)), csl⟩
  self : PySem.W.mroIn K C (.ref C) = some true
  opq : PySem.W.nsIn K cStatics "thirdparty.any" = some none
  up : PySem.W.ks_superIn K C C "__init__" = some (some (.builtin b.ini))
  sub : PySem.W.subIn K (.ref C) (.type b.B) = some true
  top : (P.main.scope.names.lookup ("super" : Str)).isSome = false
section
variable {P : Program} {w : World} {K : PySem.W.Frag} {mg : Str → Option Value} {base : Heap}
/-- the bound __init__ of the base, called -/
theorem boundG {X : Cx} {pins : List (Addr × Obj)} {σ : L2.St} {H : Hp} {s : Shared} {a C u : Addr} {b : XB} {A : Around} {E : Value → Shared → Prop} {us : List Value} {Q : Value → Shared → Prop} (T : OexG X.K C b) (I : Inv X pins σ H s) (e : H a = some (exo a C none))
    (hu : s.heap.get? u = some (PySem.W.kxs_mw b.ini a)) (hl : us.length ≤ sizeLine) (h : ∀ s', Inv X pins σ H s' → Q .none s') : wpAny (model X.prog X.w) A (call (.ref u) us) Q E s := by
  obtain ⟨nm, q, N, bs, bm, sn, sub, ab, col, dd, k0, k1, k2, k3, k5, hC, hbm⟩ := T.cls
  obtain ⟨t1, ho⟩ := exo_at I.hok e
  have hC' := I.kIn _ _ hC
  obtain ⟨hp, g, d, t, os⟩ := s
  refine wpAny_call (codeAny_of_tree ?_)
  show wpAny _ A.in1 (callAny (.ref u) ⟨us, []⟩) _ _ _
  simp only [callAny]
  refine wpAny_bind (wpAny_load hu ?_)
  simp only [PySem.W.kxs_mw, show (Value.type "method-wrapper" == Value.type "method" || Value.type "method-wrapper" == Value.type "builtin_function_or_method" || Value.type "method-wrapper" == Value.type "method-wrapper") = true by decide, if_true]
  refine PySem.W.KFB.if_so (by decide) ?_
  refine wpAny_bind (chkIni T.ok.inif hC' ho rfl ?_)
  refine wpAny_bind (wpAny_pure (wpAny_pure ?_))
  refine ⟨plainId_quiet T.ok.inif.plain _, codeAny_builtin T.ok.inif.entry ?_⟩
  refine PySem.W.exc_init_tree (cls := .ref C) (t0 := t1) (dv := none) (c2 := .none) (c3 := .none) (b4 := .bool false) ho hl fun h' k hx _ => ?_
  have J := I.write (t' := t) (x := a) (e := a) (o := exo a C none) (by rw [e]; exact True.intro) (.inl rfl) k ⟨_, hx⟩ (exo_ok hx)
  have eu : upd H a (exo a C none) = H := by
    funext b
    by_cases hb : b = a
    · rw [hb, upd_same, e]
    · rw [upd_ne hb]
  rw [eu] at J
  exact h _ J
end
end Cr
/-! len(o) by an own __len__ -/
namespace Cr
open PySem PySem.Spec PyProof.Rows L2 Evl
theorem Env0.in1 {P : Program} {w : World} {K : PySem.W.Frag} {mg : Str → Option Value} {base : Heap} {A : Around} {outer : List Env} {s : Shared} {H : Hp} (e : Env0 P w K mg base A outer s H) : Env0 P w K mg base A.in1 outer s H :=
  ⟨e.frames, e.mod, e.bs, e.bsz, e.funs, e.frf, e.hok, e.bare⟩
end Cr
/-! methods that may raise, called in a try -/
/-! defs that may raise, where no repr is under way; a caught error asked -/
/-! the program's own defs -/
namespace Cr
open PySem PySem.Spec PyProof.Rows L2 Evl
def topS (i : Nat) : Stmt := PySem.Challenge.pw_cycleready_k24_whole_shortest_paths.main.body.getD i (.Pass ⟨0, 0, 0, 0⟩)
abbrev sIsName : Stmt := topS 7
theorem scIsName : FnScope ["value", "letter"] ["value"] (defScope sIsName) := ⟨rfl, rfl, rfl, by decide +kernel, rfl, by decide +kernel, by decide +kernel⟩
/-- the built-ins are the built-ins -/
structure Blt (mg : Str → Option Value) : Prop where
  isi : mg "isinstance" = none
  int : mg "int" = none
  bool : mg "bool" = none
  str : mg "str" = none
  tuple : mg "tuple" = none
  list : mg "list" = none
  len : mg "len" = none
  all : mg "all" = none
  zip : mg "zip" = none
  repr : mg "repr" = none
  range : mg "range" = none
  max : mg "max" = none
  min : mg "min" = none
  abs : mg "abs" = none
  divmod : mg "divmod" = none
  enum : mg "enumerate" = none
  sorted : mg "sorted" = none
  sup : mg "super" = none
  verr : mg "ValueError" = none
  rerr : mg "RuntimeError" = none
  dict : mg "dict" = none
  lerr : mg "LookupError" = none
  kerr : mg "KeyError" = none
  aerr : mg "ArithmeticError" = none
  set : mg "set" = none
  any : mg "any" = none
theorem bSet : bootBuiltins "set" = some (.type "set") := by decide +kernel
theorem bIsi : bootBuiltins "isinstance" = some (.builtin "isinstance") := by decide +kernel
theorem bLen : bootBuiltins "len" = some (.builtin "len") := by decide +kernel
theorem bAll : bootBuiltins "all" = some (.builtin "all") := by decide +kernel
theorem bRepr : bootBuiltins "repr" = some (.builtin "repr") := by decide +kernel
theorem bStr : bootBuiltins "str" = some (.type "str") := by decide +kernel
theorem bTuple : bootBuiltins "tuple" = some (.type "tuple") := by decide +kernel
theorem bDict : bootBuiltins "dict" = some (.type "dict") := by decide +kernel
theorem bList : bootBuiltins "list" = some (.type "list") := by decide +kernel
/-! ### what they say -/
def isInteger (d : PyData) : Bool := isT "int" d && !isT "bool" d
def atLeast (n : Int) : PyData → Bool
  | .int i => decide (n ≤ i)
  | _ => false
def isNameS (x : Str) : Bool := (decide ((1 : Int) ≤ x.length) && decide ((x.length : Int) ≤ 8)) && x.cps.toList.all isLow
def isName : PyData → Bool
  | .str x => isNameS x
  | _ => false
def vars4 : List Str := ["a", "b", "c", "d"]
def isVar : PyData → Bool
  | .str x => vars4.any fun y => y == x
  | _ => false
section
variable {P : Program} {w : World} {K : PySem.W.Frag} {mg : Str → Option Value} {base : Heap}
theorem memS : "str" ∈ ["int", "bool", "str", "list", "tuple", "dict"] := by decide
theorem memT : "tuple" ∈ ["int", "bool", "str", "list", "tuple", "dict"] := by decide
theorem ok_isName {f : Addr} {fd : FuncData} {k : Nat} (F : Fun K "is_name" "is_name" sIsName f fd) (B : Blt mg) {tL : Tok} (gL : mg "LONGEST_NAME" = some (.int 8 tL)) : FnOk P w K mg base CX0 (k + 1) f fd ["value"] (spD isName) := by
  refine F.ok scIsName spD_len (fun cdv A outer s H vs Q E hr h => ?_)
  obtain ⟨v, d, rfl, hd, hs, q⟩ := h
  refine ⟨_, pss_cons (ps_if (PW.pt (pw_or (pt_not (pt_val (pe_callB call_isi (by rfl) B.isi bIsi (pa_cons (pv 0) (pa_cons (pe_bltn (v := .ty "str") (by rfl) B.str bStr rfl) pa_nil)))))
      (pw_or1 (pt_not (pt_chain op_le op_le pe_int (pe_callB call_len_str (by rfl) B.len bLen (pa_cons (pv 0) pa_nil)) (pe_glob (v := .int 8) (by rfl) gL ⟨_, rfl⟩))))))
      (pss_one (ps_ret pe_bl)) pss_nil)
    (pss_one (ps_ret (pe_callB (cr_all rfl) (by rfl) B.all bAll (pa_cons
      (pe_lc (own := [("letter", 1)]) (g := gName 1) (tt := tYes) rfl scIsName.nd (pi_str (pv 0)) (blkOk_by (own := [("letter", 1)]) (N := ["value", "letter"]) (sc := defScope sIsName) (by decide +kernel))
        (fun _ _ _ _ _ => pg_name (i := 1) scIsName.nd rfl (Or.inl rfl)) (fun _ _ _ _ _ => pts_nil) (fun _ _ _ _ _ => pe_chain op_leS op_leS pe_str (pv 1) pe_str)) pa_nil)))), ?_⟩
  have isS := rc_isi (K := K) hd memS
  cases hd with
  | str x =>
    have hx : x.length ≤ 1000 := by
      rw [sm] at hs
      exact of_decide_eq_true hs
    refine q_when (et_or (et_not (et_B (ev_cb (ea_cons (ev_var rfl) (ea_cons ev_c ea_nil)) isS))) fun _ => et_not (et_test (ev_chain ev_c (ev_cb (ea_cons (ev_var rfl) ea_nil) (rc_lenS hx)) rv_I0 (fun _ => ev_c) fun _ => rv_I0))) (fun hb H1 e1 => ?_) (fun hb H1 e1 => ?_)
    · refine s_ret ev_c fun H2 e2 => ?_
      have z : isName (.str x) = false := by
        have hb' : (!(isT "str" (.str x)) || !(decide ((1 : Int) ≤ x.length) && decide ((x.length : Int) ≤ 8))) = true := hb
        have e : isT "str" (.str x) = true := rfl
        rw [e, Bool.not_true, Bool.false_or] at hb'
        show ((decide ((1 : Int) ≤ x.length) && decide ((x.length : Int) ≤ 8)) && x.cps.toList.all isLow) = false
        rw [Bool.not_eq_true'] at hb'
        rw [hb', Bool.false_and]
      have g := q H2 (e1.trans e2)
      rw [z] at g
      exact g
    · have ch : ∀ c : Nat, (!decide ((⟨#[c]⟩ : Str).cps.toList < (("a" : Str)).cps.toList) && !decide ((("z" : Str)).cps.toList < (⟨#[c]⟩ : Str).cps.toList)) = isLow c := fun c => by
        have ea : (("a" : Str)).cps.toList = [97] := by decide +kernel
        have ez : (("z" : Str)).cps.toList = [122] := by decide +kernel
        have ec : (⟨#[c]⟩ : Str).cps.toList = [c] := rfl
        rw [ea, ez, ec, one_lt, one_lt]
        unfold isLow
        congr 1
        · by_cases hc : 97 ≤ c
          · rw [decide_eq_true hc, decide_eq_false (show ¬ c < 97 by omega)]; rfl
          · rw [decide_eq_false hc, decide_eq_true (show c < 97 by omega)]; rfl
        · by_cases hc : c ≤ 122
          · rw [decide_eq_true hc, decide_eq_false (show ¬ 122 < c by omega)]; rfl
          · rw [decide_eq_false hc, decide_eq_true (show 122 < c by omega)]; rfl
      have lc := el_lcW (wi := iStr (tVar 0)) (g := gName 1) (tt := tYes) (te := tChain rLeS rLeS (tC (.str "a")) (tVar 1) (tC (.str "z"))) (vs := [1]) (σ := start ["value", "letter"] [V.str x]) (H := H1) (fun _ => true) (fun i => .bl (isLow (x.cps.toList.getD i 0))) (Y := fun i H v H' => H' = H ∧ ∃ c, x.cps[i]? = some c ∧ v = .str ⟨#[c]⟩) (n := x.cps.size) (by have : x.cps.size = x.length := rfl; omega)
        (fun H2 e R r => ⟨.str x, rfl, x, rfl, r H2 _ _ walk_str (fun _ _ _ z => z) (Ex.refl H2) trivial⟩) (fun i y H2 H3 e hi hy => by
          obtain ⟨rfl, c, hc, rfl⟩ := hy
          refine ⟨Ex.refl _, [some (.str x), some (.str ⟨#[c]⟩)], rfl, fun R r => r, fun H4 _ Q q => q H4 (Ex.refl H4), fun _ => ?_⟩
          have ec : x.cps.toList.getD i 0 = c := by
            rw [List.getD, Array.getElem?_toList, hc]; rfl
          show Ev _ _ _ (.bl (isLow (x.cps.toList.getD i 0)))
          rw [ec, ← ch c]
          exact ev_chain ev_c (ev_var rfl) rv_leS (fun _ => ev_c) fun _ => rv_leS)
      have e1' : given x.cps.size (fun _ => true) (fun i => V.bl (isLow (x.cps.toList.getD i 0))) = ((List.range x.cps.size).map fun i => isLow (x.cps.toList.getD i 0)).map V.bl := by
        rw [given_all, List.map_map]; rfl
      rw [e1'] at lc
      refine s_ret (ev_all lc) fun H2 e2 => ?_
      have hb' : (!(isT "str" (.str x)) || !(decide ((1 : Int) ≤ x.length) && decide ((x.length : Int) ≤ 8))) = false := hb
      have e : isT "str" (.str x) = true := rfl
      rw [e, Bool.not_true, Bool.false_or, Bool.not_eq_false'] at hb'
      have z : isName (.str x) = ((List.range x.cps.size).map fun i => isLow (x.cps.toList.getD i 0)).all id := by
        show ((decide ((1 : Int) ≤ x.length) && decide ((x.length : Int) ≤ 8)) && x.cps.toList.all isLow) = _
        rw [hb', Bool.true_and, ← all_range x.cps.toList 0 isLow]
        rfl
      have g := q H2 (e1.trans e2)
      rw [z] at g
      exact g
  | _ =>
    refine q_when (b := true) (et_is (et_or (et_not (et_B (ev_cb (ea_cons (ev_var rfl) (ea_cons ev_c ea_nil)) isS))) (b := false) fun z => absurd z (by first | decide | simp [isT, isTs, tyT])) (by first | decide | simp [isT, isTs, tyT])) (fun _ H1 e1 => s_ret ev_c fun H2 e2 => q H2 (e1.trans e2)) (fun z => absurd z (by decide))
end
end Cr
namespace Cr
open PySem PySem.Spec PyProof.Rows L2 Evl
/-! ### the mirror -/
def isItem (d : PyData) (k : Str) : Bool :=
  if k = "variable" then isVar d
  else if k = "integer" then isInteger d
  else if k = "length" then isInteger d && atLeast 1 d
  else isName d
def shapeOf (z : Str) : Option (List Str) :=
  if z = "set" then some ["variable", "integer"] else if z = "add" then some ["variable", "variable"] else if z = "skip" then some ["variable", "length"]
  else if z = "export" then some ["name", "variable"] else if z = "read" then some ["variable", "module", "name"] else if z = "need" then some ["module"]
  else if z = "try" then some ["module", "variable"] else if z = "fail" then some [] else none
def stepItems (ds : List PyData) (ks : List Str) : Bool := ((List.range ks.length).map fun i => isItem (ds.getD i .none) (ks.getD i "")).all id
def isStep : PyData → Bool
  | .tuple (.str z :: ds) => (match shapeOf z with
    | some ks => decide (ds.length = ks.length) && stepItems ds ks
    | none => false)
  | _ => false
theorem inV_strs (z : Str) (l : List Str) : inV (.str z) (l.map V.str) = l.any fun y => y == z := by
  unfold inV
  rw [List.any_map]
  rfl
theorem flat_strs (l : List Str) : (l.map V.str).all flatV = true := by
  rw [List.all_map]
  exact List.all_eq_true.mpr fun _ _ => rfl
end Cr
namespace Cr
open PySem PySem.Spec PyProof.Rows L2 Evl
/-! ### flat values -/
def flD : V → PyData
  | .bl b => .bool b
  | .int i => .int i
  | .str x => .str x
  | _ => .none
theorem dt_flat {H : Hp} {v : V} (h : flatV v = true) : Dt H v (flD v) := by
  cases v with
  | non => exact .non
  | bl b => exact .bl b
  | int i => exact .int i
  | str x => exact .str x
  | _ => exact absurd h (fun z => nomatch z)
theorem dtAll_flat {H : Hp} : ∀ {xs : List V}, xs.all flatV = true → DtAll H xs (xs.map flD)
  | [], _ => .nil
  | x :: r, h => by
    rw [List.all_cons, Bool.and_eq_true] at h
    exact .cons (dt_flat h.1) (dtAll_flat h.2)
/-! ### the steps -/
/-- one step over drawn names -/
def skipLen : PyData → Option Int
  | .tuple (.str z :: _ :: .int i :: _) => if z = "skip" then some i else none
  | _ => none
def skipOk (n : Int) (d : PyData) : Bool :=
  match skipLen d with
  | some i => decide (i ≤ n)
  | none => true
def isBefore (d : PyData) (n : Int) : Bool := isStep d && skipOk n d
def isExport : PyData → Bool
  | .tuple (.str z :: _) => z == "export"
  | _ => false
/-- the spot of a module in a step -/
def spotOf (z : Str) : Option Nat := if z = "need" then some 1 else if z = "try" then some 1 else if z = "read" then some 2 else none
def strOf : PyData → Option Str
  | .str x => some x
  | _ => none
/-- the module of a step -/
def modO : PyData → Option Str
  | .tuple (.str z :: ds) => (spotOf z).bind fun i => strOf ((PyData.str z :: ds).getD i .none)
  | _ => none
end Cr
namespace Cr
open PySem PySem.Spec PyProof.Rows L2 Evl
/-- a def of the program as it is called -/
structure HasO (P : Program) (w : World) (K : PySem.W.Frag) (mg : Str → Option Value) (base : Heap) (k : Nat) (x : Str) (ps : List Str) (sp : Sp) : Prop where
  ex : ∃ f fd, FnOk P w K mg base CX0 k f fd ps sp ∧ Binds K fd ps [] ∧ PySem.W.keepIn K (.ref f) = true ∧ mg x = some (.ref f)
/-- .. that may raise -/
structure HasE (P : Program) (w : World) (K : PySem.W.Frag) (mg : Str → Option Value) (base : Heap) (k : Nat) (x : Str) (ps : List Str) (sp : Sp) : Prop where
  ex : ∃ f fd, FnOk P w K mg base (L2.CX P w) k f fd ps sp ∧ Binds K fd ps [] ∧ PySem.W.keepIn K (.ref f) = true ∧ mg x = some (.ref f)
theorem fnUp {P : Program} {w : World} {K : PySem.W.Frag} {mg : Str → Option Value} {base : Heap} {CX : CXT} {j k : Nat} {f : Addr} {fd : FuncData} {ps : List Str} {sp : Sp} (F : FnOk P w K mg base CX j f fd ps sp) (le : j ≤ k) : FnOk P w K mg base CX k f fd ps sp :=
  ⟨F.len, fun A outer s H args us vs Q E hr e hb r h => F.run A outer s H args us vs Q E (hr.mono le) e hb r h⟩
theorem HasO.up {P : Program} {w : World} {K : PySem.W.Frag} {mg : Str → Option Value} {base : Heap} {x : Str} {ps : List Str} {sp : Sp} {j k : Nat} (h : HasO P w K mg base j x ps sp) (le : j ≤ k) : HasO P w K mg base k x ps sp := by
  obtain ⟨f, fd, G, b, kp, g⟩ := h.ex
  exact ⟨⟨f, fd, fnUp G le, b, kp, g⟩⟩
theorem HasE.up {P : Program} {w : World} {K : PySem.W.Frag} {mg : Str → Option Value} {base : Heap} {x : Str} {ps : List Str} {sp : Sp} {j k : Nat} (h : HasE P w K mg base j x ps sp) (le : j ≤ k) : HasE P w K mg base k x ps sp := by
  obtain ⟨f, fd, G, b, kp, g⟩ := h.ex
  exact ⟨⟨f, fd, fnUp G le, b, kp, g⟩⟩
/-! ### errors with one number -/
/-- where an own error's class stands, and its __init__ -/
structure ErrAt (P : Program) (K : PySem.W.Frag) (mg : Str → Option Value) (C fI : Addr) (fd : FuncData) (b : XB) (cn qual fld : Str) (st : Stmt) : Prop where
  ex : ∃ (cda cc : Addr) (oc : Value) (od an : Option Addr) (kV doc pm ct : Value) (osl : Array (Option Value)),
    fd = PySem.W.ksFn "__init__" qual (defArgs st) (defBody st) (defScope st) .none kV doc pm an (.ref cda) ct cc ∧
    K.lookup fI = some ⟨oc, od, .func fd, osl⟩ ∧ PySem.W.codeIn K (.ref cda) qual = true ∧ SupG P K C cda cc b
  init : PySem.W.findIn K (.ref C) "__init__" = some (some (.ref fI))
  fn : PySem.W.typeIn K (.ref fI) = some (.type "function")
  no : PySem.W.findIn K (.ref C) fld = some none
  at_ : mg cn = some (.ref C)
end Cr
namespace Cr
open PySem PySem.Spec PyProof.Rows L2 Evl
/-- the modules that are allowed: all, or those of a list -/
def MdAt (H : Hp) (m : V) : Option (List V) → Prop
  | none => m = .non
  | some xs => ∃ a, m = .ref a ∧ H a = some (.lst xs) ∧ xs.all flatV = true
theorem MdAt.ex {H H' : Hp} {m : V} {ms : Option (List V)} (e : Ex H H') (h : MdAt H m ms) : MdAt H' m ms := by
  cases ms with
  | none => exact h
  | some xs =>
    obtain ⟨a, h1, h2, h3⟩ := h
    exact ⟨a, h1, e _ _ h2, h3⟩
def modsOk (ms : Option (List V)) (d : PyData) : Bool :=
  match ms with
  | none => true
  | some xs => (modO d).toList.all fun x => inV (.str x) xs
def fitsIn (ms : Option (List V)) (d : PyData) (n : Int) : Bool := isBefore d n && modsOk ms d
end Cr
namespace Cr
open PySem PySem.Spec PyProof.Rows L2 Evl
def wrongAt (ms : Option (List V)) (main : Bool) (ds : List PyData) (i : Nat) : Bool := !fitsIn ms (ds.getD i .none) ((ds.length : Int) - i - 1) || (main && isExport (ds.getD i .none))
def firstBad (ms : Option (List V)) (main : Bool) (ds : List PyData) : Option Nat := (List.range ds.length).find? (wrongAt ms main ds)
def dueOf (ms : Option (List V)) (main : Bool) : PyData → Option Int
  | .list ds => if ds.length > 30 then some (-1) else (firstBad ms main ds).map fun i => (i : Int)
  | _ => some (-1)
def spCheck (C : Addr) : Sp := fun vs H Q E => ∃ v d main, vs = [v, .bl main] ∧ Dt H v d ∧ sm d = true ∧ (dueOf none main d = none → ∀ H', Ex H H' → Q .non H') ∧
  ∀ i, dueOf none main d = some i → ∀ dx H', H dx = none → Ex H H' → H' dx = some (.xd [("position", .int i)]) → E (.ref C) (some dx) H'
end Cr
namespace Cr
open PySem PySem.Spec PyProof.Rows L2 Evl
abbrev sBareW : Stmt := topS 9
theorem scBareW : FnScope ["word"] ["word"] (defScope sBareW) := ⟨rfl, rfl, rfl, by decide +kernel, rfl, by decide +kernel, by decide +kernel⟩
/-- check_program, as it is called: one value, or is_main by its name -/
structure HasC (P : Program) (w : World) (K : PySem.W.Frag) (mg : Str → Option Value) (base : Heap) (k : Nat) (C : Addr) : Prop where
  ex : ∃ f fd, FnOk P w K mg base (L2.CX P w) k f fd ["value", "is_main"] (spCheck C) ∧ (∃ ds, Vals [.bl false] ds ∧ Binds K fd ["value", "is_main"] ds) ∧ (∃ g, KBn K fd ["value", "is_main"] 1 ["is_main"] g (fun vs zs => vs ++ zs)) ∧
    PySem.W.keepIn K (.ref f) = true ∧ mg "check_program" = some (.ref f)
/-! ### bare values -/
def spBareW : Sp := fun vs H Q _ => ∃ x : Str, vs = [.str x] ∧ x.length ≤ 1000 ∧ ∀ H', Ex H H' → Q (.str x) H'
/-- steps stand at the places xs: tuples of the values vss -/
def Steps (H : Hp) : List V → List (List V) → Prop
  | [], [] => True
  | x :: xs, vs :: vss => (∃ t, x = .ref t ∧ H t = some (.tup vs)) ∧ Steps H xs vss
  | _, _ => False
/-- all tuples stand as they stood -/
def Tps (H H' : Hp) : Prop := ∀ a xs, H a = some (.tup xs) → H' a = some (.tup xs)
theorem Ex.tps {H H' : Hp} (e : Ex H H') : Tps H H' := fun a xs h => e a _ h
theorem Tps.refl (H : Hp) : Tps H H := fun _ _ h => h
theorem Tps.trans {H H1 H2 : Hp} (a : Tps H H1) (b : Tps H1 H2) : Tps H H2 := fun x o h => b x o (a x o h)
theorem Steps.tps {H H' : Hp} (e : Tps H H') : ∀ {xs : List V} {vss : List (List V)}, Steps H xs vss → Steps H' xs vss
  | [], [], _ => trivial
  | _ :: _, _ :: _, ⟨⟨t, h1, h2⟩, h⟩ => ⟨⟨t, h1, e _ _ h2⟩, Steps.tps e h⟩
theorem Steps.length {H : Hp} : ∀ {xs : List V} {vss : List (List V)}, Steps H xs vss → xs.length = vss.length
  | [], [], _ => rfl
  | _ :: _, _ :: _, ⟨_, h⟩ => by rw [List.length_cons, List.length_cons, Steps.length h]
theorem Steps.get {H : Hp} : ∀ {xs : List V} {vss : List (List V)} {i : Nat} {vs : List V}, Steps H xs vss → vss[i]? = some vs → ∃ t, xs[i]? = some (.ref t) ∧ H t = some (.tup vs)
  | [], [], _, _, _, h => by simp at h
  | _ :: _, _ :: _, 0, _, ⟨⟨t, h1, h2⟩, _⟩, h => by simp at h; subst h; exact ⟨t, by rw [h1]; rfl, h2⟩
  | _ :: _, _ :: _, i + 1, _, ⟨_, r⟩, h => by
    obtain ⟨t, a, b⟩ := Steps.get (i := i) r (by simpa using h)
    exact ⟨t, by simpa using a, b⟩
theorem Steps.snoc {H : Hp} {t : Addr} {vs : List V} (h : H t = some (.tup vs)) : ∀ {xs : List V} {vss : List (List V)}, Steps H xs vss → Steps H (xs ++ [.ref t]) (vss ++ [vs])
  | [], [], _ => ⟨⟨t, rfl, h⟩, trivial⟩
  | _ :: _, _ :: _, ⟨a, r⟩ => ⟨a, Steps.snoc h r⟩
theorem Steps.take {H : Hp} {xs : List V} {vss : List (List V)} (h : Steps H xs vss) : ∀ {i : Nat}, Steps H (xs.take i) (vss.take i) := by
  intro i
  induction i generalizing xs vss with
  | zero => rw [List.take_zero, List.take_zero]; trivial
  | succ i ih =>
    match xs, vss, h with
    | [], [], _ => trivial
    | _ :: _, _ :: _, ⟨a, r⟩ => exact ⟨a, ih r⟩
/-- the data of such steps -/
def stepsD (vss : List (List V)) : List PyData := vss.map fun vs => .tuple (vs.map flD)
theorem Steps.dt {H : Hp} : ∀ {xs : List V} {vss : List (List V)}, Steps H xs vss → (∀ vs ∈ vss, vs.all flatV = true) → DtAll H xs (stepsD vss)
  | [], [], _, _ => .nil
  | _ :: _, vs :: vss, ⟨⟨t, h1, h2⟩, r⟩, hf => by
    subst h1
    exact .cons (.tup h2 (dtAll_flat (hf vs List.mem_cons_self))) (Steps.dt r fun v hv => hf v (List.mem_cons_of_mem _ hv))
theorem join_one (x : Str) : Txt.join ("" : Str) [x] = x := by
  rw [TL.join_eq]
  rfl
section
variable {P : Program} {w : World} {K : PySem.W.Frag} {mg : Str → Option Value} {base : Heap}
theorem ok_bareW {f : Addr} {fd : FuncData} {k : Nat} (F : Fun K "bare_word" "bare_word" sBareW f fd) : FnOk P w K mg base CX0 (k + 1) f fd ["word"] spBareW := by
  refine F.ok scBareW (fun vs H Q E h => by obtain ⟨_, rfl, _⟩ := h; rfl) (fun cdv A outer s H vs Q E hr h => ?_)
  obtain ⟨x, rfl, hx, q⟩ := h
  refine ⟨_, pss_one (ps_ret (pe_join pe_str (pe_lst (pa_cons (pv 0) pa_nil)))), ?_⟩
  refine ⟨⟨_, rfl⟩, _, rfl, by show 1 ≤ sizeLine; decide, fun l hl => ⟨_, l, [x], rfl, rfl, .inl (sq_of upd_same), ?_, ?_⟩⟩
  · have e0 : (("" : Str)).length = 0 := by decide +kernel
    simp [e0]
    omega
  · have g := q _ (Ex.new (o := .lst [.str x]) hl)
    rw [← join_one x] at g
    exact g
end
end Cr
/-! frames: what they look like -/
namespace Cr
open PySem PySem.Spec PyProof.Rows L2 Evl
/-! ### four variables -/
structure M4 where
  a : Int
  b : Int
  c : Int
  d : Int
def M4.kv (m : M4) : List (Key × V) := [(.inr "a", .int m.a), (.inr "b", .int m.b), (.inr "c", .int m.c), (.inr "d", .int m.d)]
def M4.get (m : M4) (x : Str) : Int := if x = "a" then m.a else if x = "b" then m.b else if x = "c" then m.c else m.d
def M4.set (m : M4) (x : Str) (v : Int) : M4 := if x = "a" then { m with a := v } else if x = "b" then { m with b := v } else if x = "c" then { m with c := v } else { m with d := v }
def M4.zero : M4 := ⟨0, 0, 0, 0⟩
def M4.all (m : M4) (p : Int → Prop) : Prop := p m.a ∧ p m.b ∧ p m.c ∧ p m.d
def M4.dat (m : M4) : List (PyData × PyData) := [(.str "a", .int m.a), (.str "b", .int m.b), (.str "c", .int m.c), (.str "d", .int m.d)]
theorem M4.dt {H : Hp} (m : M4) : DtKv H m.kv m.dat := .cons (.int _) (.cons (.int _) (.cons (.int _) (.cons (.int _) .nil)))
/-! ### what else stands as it stood -/
def But (l : List Addr) (H H' : Hp) : Prop := ∀ a o, a ∉ l → H a = some o → H' a = some o
theorem But.refl {l : List Addr} (H : Hp) : But l H H := fun _ _ _ h => h
theorem But.trans {l : List Addr} {H H1 H2 : Hp} (a : But l H H1) (b : But l H1 H2) : But l H H2 := fun x o n h => b x o n (a x o n h)
theorem But.of {l : List Addr} {H H' : Hp} (e : Ex H H') : But l H H' := fun a o _ h => e a o h
theorem But.mono {l l' : List Addr} {H H' : Hp} (h : But l H H') (s : ∀ a ∈ l, a ∈ l') : But l' H H' := fun a o n z => h a o (fun y => n (s a y)) z
/-! ### the frame -/
/-- its addresses: its own dict, steps, memory, visited -/
structure FrA where
  dx : Addr
  aS : Addr
  aM : Addr
  aV : Addr
def fl (A : FrA) (pos : Nat) : List (Str × V) := [("steps", .ref A.aS), ("position", .int (pos : Int)), ("memory", .ref A.aM), ("visited", .ref A.aV)]
def own (p : Addr) (A : FrA) : List Addr := [p, A.aM, A.aV]
structure FrameAt (C : Addr) (H : Hp) (p : Addr) (A : FrA) (vss : List (List V)) (pos : Nat) (m : M4) (n : Nat) : Prop where
  ob : H p = some (.ins C A.dx (fl A pos))
  st : ∃ xs, H A.aS = some (.lst xs) ∧ Steps H xs vss
  me : H A.aM = some (.dK m.kv)
  vi : ∃ vis, H A.aV = some (.lst vis) ∧ vis.length = n
  sv : A.aS ≠ A.aV
section
variable {C : Addr} {H H' : Hp} {p : Addr} {A : FrA} {vss : List (List V)} {pos : Nat} {m : M4} {n : Nat}
theorem FrameAt.ex (h : FrameAt C H p A vss pos m n) (e : Ex H H') : FrameAt C H' p A vss pos m n := by
  obtain ⟨xs, h1, h2⟩ := h.st
  obtain ⟨vis, h3, h4⟩ := h.vi
  exact ⟨e _ _ h.ob, ⟨xs, e _ _ h1, h2.tps (Ex.tps e)⟩, e _ _ h.me, ⟨vis, e _ _ h3, h4⟩, h.sv⟩
/-- none of its own addresses is changed -/
theorem FrameAt.but {l : List Addr} (h : FrameAt C H p A vss pos m n) (e : But l H H') (t : Tps H H') (h1 : p ∉ l) (h2 : A.aS ∉ l) (h3 : A.aM ∉ l) (h4 : A.aV ∉ l) : FrameAt C H' p A vss pos m n := by
  obtain ⟨xs, g1, g2⟩ := h.st
  obtain ⟨vis, g3, g4⟩ := h.vi
  exact ⟨e _ _ h1 h.ob, ⟨xs, e _ _ h2 g1, g2.tps t⟩, e _ _ h3 h.me, ⟨vis, e _ _ h4 g3, g4⟩, h.sv⟩
theorem tps_own {l : List Addr} (e : But l H H') (hl : ∀ a ∈ l, ∀ xs, H a ≠ some (.tup xs)) : Tps H H' := fun a xs z => e a _ (fun y => hl a y xs z) z
theorem FrameAt.tps {H' : Hp} (h : FrameAt C H p A vss pos m n) (e : But (own p A) H H') : Tps H H' := tps_own e fun a ha xs z => by
  obtain ⟨vis', g3, g4⟩ := h.vi
  simp only [own, List.mem_cons, List.not_mem_nil, or_false] at ha
  rcases ha with rfl | rfl | rfl
  · rw [h.ob] at z; cases z
  · rw [h.me] at z; cases z
  · rw [g3] at z; cases z
end
/-! ### steps as data -/
def dV : PyData → V
  | .int i => .int i
  | .str x => .str x
  | .bool b => .bl b
  | _ => .non
end Cr
/-! frames: the methods -/
namespace Cr
open PySem PySem.Spec PyProof.Rows L2 Evl
/-- a method as it is called -/
structure HasM (P : Program) (w : World) (K : PySem.W.Frag) (mg : Str → Option Value) (base : Heap) (CX : CXT) (k : Nat) (C : Addr) (m : Str) (ps : List Str) (sp : Sp) : Prop where
  ex : ∃ f fd, FnOk P w K mg base CX k f fd ps sp ∧ Binds K fd ps [] ∧ Meth K C m f
theorem HasM.up {P : Program} {w : World} {K : PySem.W.Frag} {mg : Str → Option Value} {base : Heap} {CX : CXT} {C : Addr} {m : Str} {ps : List Str} {sp : Sp} {j k : Nat} (h : HasM P w K mg base CX j C m ps sp) (le : j ≤ k) : HasM P w K mg base CX k C m ps sp := by
  obtain ⟨f, fd, G, b, kp⟩ := h.ex
  exact ⟨⟨f, fd, fnUp G le, b, kp⟩⟩
section
variable {K : PySem.W.Frag} {σ : L2.St} {H : Hp} {te td ty : TE} {v : V}
theorem q_asgAny {i : Nat} {D : Ends} {tz : TS} (h : te σ H fun v H1 => tz D (σ.set i (some v)) H1) : tSeq (tAsg te (gName i)) tz D σ H := h
theorem q_dropAny {D : Ends} {tz : TS} (h : te σ H fun _ H1 => tz D σ H1) : tSeq (tDrop te) tz D σ H := h
theorem ev_fld {p C dx : Addr} {fs : List (Str × V)} {f : Str} (he : Ev te σ H (.ref p)) (h : H p = some (.ins C dx fs)) (cl : Cls K C) (n : NoAttr K C f) (l : fs.lookup f = some v) : Ev (tFld K te f) σ H v := fun H1 e Q q =>
  he H1 e _ fun H2 e2 => ⟨p, C, dx, fs, v, rfl, (e.trans e2) _ _ h, cl, n, l, q H2 e2⟩
theorem ev_dget {a : Addr} {kvs : List (Key × V)} {x : Str} (hd : Ev td σ H (.ref a)) (hy : Ev ty σ H (.str x)) (h : H a = some (.dK kvs)) (hv : valV kvs (.inr x) = some v) : Ev (tDGet td ty) σ H v := fun H1 e Q q =>
  hd H1 e _ fun H2 e2 => hy H2 (e.trans e2) _ fun H3 e3 => ⟨a, v, rfl, by
    have z := DGet.k (k := .inr x) (((e.trans e2).trans e3) _ _ h)
    rw [hv] at z
    exact z, q H3 (e2.trans e3)⟩
end
end Cr
/-! frames: the making, the plain steps -/
/-! frames: run_plain -/
namespace Cr
open PySem PySem.Spec PyProof.Rows L2 Evl
/-- how far a plain step goes, and the memory behind it -/
def goes (us : List V) (m : M4) : Nat :=
  match us with
  | [.str z, .str x, .int i] => if z = "skip" ∧ m.get x > 0 then 1 + i.toNat else 1
  | _ => 1
end Cr
/-! data whose text is short: by bulk and depth -/
namespace Cr
open PySem PySem.Spec PyProof.Rows L2 Evl
/-- leaves of at most 80 signs, so much bulk, so deep -/
structure Sz (b m : Nat) (d : PyData) : Prop where
  sh : d.showable = true
  lf : d.leavesShort 80 = true
  bk : d.bulk ≤ b
  dp : d.depth ≤ m
structure SzA (b m : Nat) (ds : List PyData) : Prop where
  sh : PyData.showableAll ds = true
  lf : PyData.leavesShortAll 80 ds = true
  bk : PyData.bulkAll ds ≤ b
  dp : PyData.depthAll ds ≤ m
theorem Sz.fits {b m : Nat} {d : PyData} (h : Sz b m d) (hb : b ≤ 100000) (hm : m ≤ 50) : Fits d := by
  refine ⟨h.sh, Nat.le_trans h.dp hm, ?_⟩
  have z := PyData.shown_le_bulk 80 (by decide) d h.lf
  have y := h.bk
  rw [sizeLine_eq]
  omega
theorem Sz.mono {b b' m m' : Nat} {d : PyData} (h : Sz b m d) (hb : b ≤ b') (hm : m ≤ m') : Sz b' m' d := ⟨h.sh, h.lf, Nat.le_trans h.bk hb, Nat.le_trans h.dp hm⟩
theorem sz_none {b m : Nat} : Sz b m .none := ⟨rfl, rfl, Nat.zero_le _, Nat.zero_le _⟩
theorem sz_str {b m : Nat} {x : Str} (hb : x.length ≤ b) (hx : ∀ c ∈ x.cps.toList, c < 1000) : Sz b m (.str x) := by
  refine ⟨rfl, ?_, ?_, Nat.zero_le _⟩
  · rw [PyData.leavesShort]
    exact List.all_eq_true.mpr fun c hc => decide_eq_true (Nat.lt_trans (hx c hc) (by decide))
  · rw [PyData.bulk]
    exact hb
theorem sza_cons {b b' m : Nat} {d : PyData} {ds : List PyData} (h : Sz b m d) (r : SzA b' m ds) : SzA (b + 1 + b') m (d :: ds) := by
  refine ⟨by rw [PyData.showableAll, h.sh, r.sh]; rfl, by rw [PyData.leavesShortAll, h.lf, r.lf]; rfl, ?_, ?_⟩
  · have h1 := h.bk
    have h2 := r.bk
    rw [PyData.bulkAll]
    omega
  · rw [PyData.depthAll]
    exact Nat.max_le.mpr ⟨h.dp, r.dp⟩
theorem sz_list {b m : Nat} {ds : List PyData} (h : SzA b m ds) : Sz b (m + 1) (.list ds) := ⟨by rw [PyData.showable]; exact h.sh, by rw [PyData.leavesShort]; exact h.lf, by rw [PyData.bulk]; exact h.bk, by rw [PyData.depth]; exact Nat.succ_le_succ h.dp⟩
theorem sza_all {b m : Nat} : ∀ {ds : List PyData}, (∀ d ∈ ds, Sz b m d) → SzA ((b + 1) * ds.length) m ds
  | [], _ => ⟨rfl, rfl, Nat.zero_le _, Nat.zero_le _⟩
  | d :: r, h => by
    have z := sza_cons (h d List.mem_cons_self) (sza_all fun x hx => h x (List.mem_cons_of_mem _ hx))
    refine ⟨z.sh, z.lf, ?_, z.dp⟩
    have y := z.bk
    rw [List.length_cons, Nat.mul_add, Nat.mul_one]
    omega
end Cr
/-! the law's own draws -/
namespace Cr
open PySem PySem.Spec PyProof.Rows L2 Evl
abbrev sPot : Stmt := topS 13
abbrev sDraw : Stmt := topS 14
abbrev sChoice : Stmt := topS 15
abbrev nPot : List Str := ["_law_script", "_law_index", "_law_cell"]
abbrev nDraw : List Str := ["_law_pot_here", "_law_bound", "_law_digit"]
abbrev nChoice : List Str := ["_law_pot_here", "_law_options"]
theorem scPot : FnScope nPot ["_law_script", "_law_index"] (defScope sPot) := ⟨rfl, rfl, rfl, by decide +kernel, rfl, by decide +kernel, by decide +kernel⟩
theorem scDraw : FnScope nDraw ["_law_pot_here", "_law_bound"] (defScope sDraw) := ⟨rfl, rfl, rfl, by decide +kernel, rfl, by decide +kernel, by decide +kernel⟩
theorem scChoice : FnScope nChoice ["_law_pot_here", "_law_options"] (defScope sChoice) := ⟨rfl, rfl, rfl, by decide +kernel, rfl, by decide +kernel, by decide +kernel⟩
theorem bMax : bootBuiltins "max" = some (.builtin "max") := by decide +kernel
theorem bMin : bootBuiltins "min" = some (.builtin "min") := by decide +kernel
theorem bAbs : bootBuiltins "abs" = some (.builtin "abs") := by decide +kernel
theorem bDivmod : bootBuiltins "divmod" = some (.builtin "divmod") := by decide +kernel
/-- the pot at p -/
def Pot (H : Hp) (p : Addr) : Prop := ∃ x y : Int, H p = some (.lst [.int x, .int y]) ∧ 0 ≤ x ∧ 0 ≤ y ∧ y < 2147483648
/-- drawn from: all but the pot stands as it stood -/
structure Drew (p : Addr) (H H' : Hp) : Prop where
  ex : Ex (wo p H) (wo p H')
  pot : Pot H' p
theorem Drew.trans {p : Addr} {H H1 H2 : Hp} (a : Drew p H H1) (b : Drew p H1 H2) : Drew p H H2 := ⟨a.ex.trans b.ex, b.pot⟩
theorem Drew.refl {p : Addr} {H : Hp} (h : Pot H p) : Drew p H H := ⟨Ex.refl _, h⟩
theorem Pot.ex {p : Addr} {H H' : Hp} (h : Pot H p) (e : Ex H H') : Pot H' p := by
  obtain ⟨x, y, h, r⟩ := h
  exact ⟨x, y, e _ _ h, r⟩
theorem Drew.of {p : Addr} {H H' : Hp} (h : Pot H p) (e : Ex H H') : Drew p H H' := ⟨Ex.wo e, h.ex e⟩
theorem Drew.at {p a : Addr} {H H' : Hp} {o : HO} (d : Drew p H H') (n : a ≠ p) (h : H a = some o) : H' a = some o :=
  (wo_some (d.ex a o (by rw [wo_ne n]; exact h))).2
theorem Drew.set {p : Addr} {H : Hp} {o : HO} {x y : Int} (e : o = .lst [.int x, .int y]) (hx : 0 ≤ x) (hy : 0 ≤ y) (hy2 : y < 2147483648) : Drew p H (upd H p o) :=
  ⟨wo_upd (Ex.refl _), x, y, by rw [upd_same, e], hx, hy, hy2⟩
theorem fresh_drew {p q : Addr} {H H' : Hp} (d : Drew p H H') (hp : Pot H p) (h : H' q = none) : H q = none := by
  cases e : H q with
  | none => rfl
  | some o =>
    by_cases n : q = p
    · subst n
      obtain ⟨x, y, z, _⟩ := d.pot
      rw [z] at h
      cases h
    · rw [d.at n e] at h
      cases h
def spPot (K : PySem.W.Frag) : Sp := fun vs H Q _ => ∃ (a : Addr) (ns : List Int) (i : Nat), vs = [.ref a, .int (i : Int)] ∧ SqL K H a (ns.map V.int) ∧ i < 100 ∧ ∀ p H', H p = none → Ex H H' → Pot H' p → Q (.ref p) H'
def spDraw : Sp := fun vs H Q _ => ∃ (p : Addr) (b : Int), vs = [.ref p, .int b] ∧ 0 < b ∧ b.natAbs.log2 < 9000 ∧ Pot H p ∧ ∀ d H', 0 ≤ d → d < b → Drew p H H' → Q (.int d) H'
def spChoice : Sp := fun vs H Q _ => ∃ (p : Addr), Pot H p ∧
  ((∃ (o : Addr) (xs : List V), vs = [.ref p, .ref o] ∧ o ≠ p ∧ H o = some (.lst xs) ∧ 0 < xs.length ∧ xs.length ≤ 1000 ∧ ∀ v H', v ∈ xs → Drew p H H' → Q v H') ∨
   ∃ z : Str, vs = [.ref p, .str z] ∧ 0 < z.length ∧ z.length ≤ 1000 ∧ ∀ c H', c ∈ z.cps.toList → Drew p H H' → Q (.str ⟨#[c]⟩) H')
section
variable {P : Program} {w : World} {K : PySem.W.Frag} {mg : Str → Option Value} {base : Heap}
theorem ok_pot {f : Addr} {fd : FuncData} {k : Nat} (F : Fun K "_law_pot" "_law_pot" sPot f fd) (B : Blt mg) : FnG P w K mg base CX0 (k + 1) f fd ["_law_script", "_law_index"] (spPot K) := by
  refine okG F scPot (fun vs H Q E h => by obtain ⟨_, _, _, rfl, _⟩ := h; rfl) (fun cdv A outer s H vs Q E hq hr h => ?_)
  obtain ⟨a, ns, i, rfl, hS, hi, q⟩ := h
  refine ⟨_, pss_cons (ps_set (i := 2) scPot.nd rfl (.inl rfl) pe_int)
    (pss_cut (ps_if (pt_cmpR op_lt (pv 1) (pe_callB call_len_seq (by rfl) B.len bLen (pa_cons (pv 0) pa_nil)) (nomark _))
      (pss_one (ps_set (i := 2) scPot.nd rfl (.inl rfl) (pe_callB call_abs (by rfl) B.abs bAbs (pa_cons (pe_ix ix_list (pv 0) (pv 1) (fun _ _ => rfl)) pa_nil)))) pss_nil)
    (pss_one (ps_ret (pe_lst (pa_cons (pe_callB (call_max2 rfl) (by rfl) B.max bMax (pa_cons pe_int (pa_cons (pe_op op_sub (pv 2) (pe_op op_pow pe_int pe_int)) pa_nil)))
      (pa_cons (pe_op op_add (pe_op op_mod (pe_op op_pow (pe_op op_add (pe_op op_add (pe_op op_mod (pv 2) pe_int) (pe_op op_mul pe_int (pv 1))) pe_int) pe_int) pe_int) pe_int) pa_nil)))))), ?_⟩
  refine q_asg ev_c fun H1 e1 => ?_
  refine q_cut (M := fun σ H2 => ∃ c : Int, 0 ≤ c ∧ σ = [some (.ref a), some (.int i), some (.int c)] ∧ Ex H H2) ?_ ?_
  · refine s_when (et_test (ev_op (ev_var rfl) (ev_cb (ea_cons (ev_var rfl) ea_nil) (rc_lenL (ex_l e1 hS))) rv_I0)) (fun hb H2 e2 => ?_) (fun hb H2 e2 => ⟨0, Int.le_refl 0, rfl, e1.trans e2⟩)
    have hlt := of_decide_eq_true hb
    rw [List.length_map] at hlt
    have hlt2 : i < ns.length := by omega
    refine s_asg (v := .int (if ns[i] < 0 then -ns[i] else ns[i])) (ev_cb (ea_cons (ev_op (ev_var rfl) (ev_var rfl) (rv_ixL (ex_l (e1.trans e2) hS) (atI_nat (j := i) (v := .int ns[i]) (by rw [List.getElem?_map, List.getElem?_eq_getElem hlt2]; rfl)))) ea_nil) (fun H3 _ Q q => ⟨_, rfl, q H3 (Ex.refl H3)⟩)) fun H3 e3 => ?_
    exact ⟨_, by split <;> omega, rfl, (e1.trans e2).trans e3⟩
  · rintro σ H2 ⟨c, hc, rfl, e2⟩
    have hm : 0 ≤ c % 2147483629 ∧ c % 2147483629 < 2147483629 := ⟨Int.emod_nonneg _ (by decide), Int.emod_lt_of_pos _ (by decide)⟩
    have hz : (c % 2147483629 + 1013 * (i : Int) + 7).natAbs < 2 ^ 64 := by omega
    have hx : ∀ y : Int, 0 ≤ y % 2147483587 ∧ y % 2147483587 < 2147483587 := fun y => ⟨Int.emod_nonneg _ (by decide), Int.emod_lt_of_pos _ (by decide)⟩
    have hx1 := hx ((c % 2147483629 + 1013 * (i : Int) + 7) ^ (3 : Int).toNat)
    refine s_retL (el_lst (ea_cons (ev_cb (ea_cons ev_c (ea_cons (ev_op (ev_var rfl) (ev_op ev_c ev_c (rv_I ⟨by decide, by decide, by decide⟩)) rv_I0) ea_nil)) (fun H3 _ Q q => ⟨_, _, rfl, q H3 (Ex.refl H3)⟩))
      (ea_cons (ev_op (ev_op (ev_op (ev_op (ev_op (ev_op (ev_var rfl) ev_c (rv_I (by show (0 : Int) < 2147483629; decide))) (ev_op ev_c (ev_var rfl) (rv_I (.inl ⟨by decide, by decide⟩))) rv_I0) ev_c rv_I0) ev_c (rv_I ⟨by decide, by decide, hz⟩)) ev_c (rv_I (by show (0 : Int) < 2147483587; decide))) ev_c rv_I0) ea_nil)) (by show 2 ≤ 100000; decide)) fun p H3 hp e3 h3 => ?_
    refine q p H3 (fresh_back e2 hp) (e2.trans e3) ⟨_, _, h3, ?_, ?_, ?_⟩
    · split <;> omega
    · omega
    · omega
end
end Cr
namespace Cr
open PySem PySem.Spec PyProof.Rows L2 Evl
/-- the law's helpers as they are called: the promise, how it binds, where it stands -/
structure Has (P : Program) (w : World) (K : PySem.W.Frag) (mg : Str → Option Value) (base : Heap) (k : Nat) (x : Str) (ps : List Str) (sp : Sp) : Prop where
  ex : ∃ f fd, FnG P w K mg base CX0 k f fd ps sp ∧ Binds K fd ps [] ∧ PySem.W.keepIn K (.ref f) = true ∧ mg x = some (.ref f)
theorem divp_small {i j : Int} (h : 0 < j) (hj : j.natAbs.log2 < 9000) : CDivP i j := by
  refine ⟨h, ?_⟩
  show (decide ((if j == 0 then 0 else j.natAbs.log2 / 30 + 1) > 300) && decide ((if i == 0 then 0 else i.natAbs.log2 / 30 + 1) > (if j == 0 then 0 else j.natAbs.log2 / 30 + 1) + 150)) = false
  rw [if_neg (show ¬ (j == 0) = true by simpa using (show j ≠ 0 by omega)), decide_eq_false (show ¬ j.natAbs.log2 / 30 + 1 > 300 by omega), Bool.false_and]
section
variable {P : Program} {w : World} {K : PySem.W.Frag} {mg : Str → Option Value} {base : Heap}
theorem ok_draw {f : Addr} {fd : FuncData} {k : Nat} (F : Fun K "_law_draw" "_law_draw" sDraw f fd) (B : Blt mg) : FnG P w K mg base CX0 (k + 1) f fd ["_law_pot_here", "_law_bound"] spDraw := by
  refine okG F scDraw (fun vs H Q E h => by obtain ⟨_, _, rfl, _⟩ := h; rfl) (fun cdv A outer s H vs Q E hq hr h => ?_)
  obtain ⟨p, b, rfl, hb, hb2, ⟨x, y, hp, hx, hy, hy2⟩, q⟩ := h
  refine ⟨_, pss_cons (ps_if (pt_cmpR op_gt (pe_ix ix_list (pv 0) pe_int (fun _ _ => rfl)) pe_int (nomark _))
      (pss_cons (ps_asg (pe_callB call_divmodW (by rfl) B.divmod bDivmod (pa_cons (pe_ix ix_list (pv 0) pe_int (fun _ _ => rfl)) (pa_cons (pv 1) pa_nil)))
          (pg_tup rfl (pgs_cons (pg_sub (pv 0) pe_int set_list) (pgs_cons (pg_name (i := 2) scDraw.nd rfl (.inl rfl)) pgs_nil))))
        (pss_one (ps_ret (pv 2)))) pss_nil)
    (pss_cons (ps_asg (pe_op op_mod (pe_op op_add (pe_op op_mul (pe_ix ix_list (pv 0) pe_int (fun _ _ => rfl)) pe_int) pe_int) pe_int) (pg_sub (pv 0) pe_int set_list))
    (pss_one (ps_ret (pe_op op_mod (pe_op op_fdiv (pe_op op_mod (pe_op op_mul (pe_ix ix_list (pv 0) pe_int (fun _ _ => rfl)) (pe_ix ix_list (pv 0) pe_int (fun _ _ => rfl))) pe_int) pe_int) (pv 1))))), ?_⟩
  have i0 : atI [V.int x, V.int y] 0 = some (.int x) := atI_nat (j := 0) rfl
  have i1 : ∀ z : Int, atI [V.int x, V.int z] 1 = some (.int z) := fun z => atI_nat (j := 1) rfl
  refine q_when (et_test (ev_op (ev_op (ev_var rfl) ev_c (rv_ixL (sq_of hp) i0)) ev_c rv_I0)) (fun hc H1 e1 => ?_) (fun hc H1 e1 => ?_)
  · -- the digits
    have hx1 : 0 < x := of_decide_eq_true hc
    have hp1 := e1 _ _ hp
    refine ev_op (ev_var rfl) ev_c (rv_ixL (K := K) (sq_of hp1) i0) H1 (Ex.refl H1) _ fun H2 e2 => ?_
    refine ⟨.int b, rfl, x, b, rfl, divp_small hb hb2, fun t ht => ?_⟩
    have tp : p ≠ t := ne_of_none (e2 _ _ hp1) ht
    refine ⟨t, [.int (x / b), .int (x % b)], rfl, .inl (.inl upd_same), rfl, .int (x / b), [.int (x % b)], rfl, .ref p, rfl, p, [.int x, .int y], 0, 0, rfl, rfl, ?_, rfl, .int (x % b), [], rfl, rfl, .int (x % b), rfl, ?_⟩
    · rw [upd_ne tp]
      exact e2 _ _ hp1
    · refine q (x % b) _ (Int.emod_nonneg _ (by omega)) (Int.emod_lt_of_pos _ hb) ?_
      refine Drew.trans (H1 := upd H2 t (.tup [.int (x / b), .int (x % b)])) (Drew.of ⟨x, y, hp, hx, hy, hy2⟩ ((e1.trans e2).trans (Ex.new ht))) ?_
      exact Drew.set rfl (Int.ediv_nonneg hx (by omega)) hy hy2
  · have hp1 := e1 _ _ hp
    have m1 : 0 ≤ (y * 48271 + 10037) % 2147483587 ∧ (y * 48271 + 10037) % 2147483587 < 2147483587 := ⟨Int.emod_nonneg _ (by decide), Int.emod_lt_of_pos _ (by decide)⟩
    generalize ez : (y * 48271 + 10037) % 2147483587 = z at m1
    refine ev_op (z := .int ((y * 48271 + 10037) % 2147483587)) (ev_op (ev_op (ev_op (ev_var rfl) ev_c (rv_ixL (K := K) (sq_of hp1) (i1 y))) ev_c (rv_I (.inl ⟨by omega, by omega⟩))) ev_c rv_I0) ev_c (rv_I (by show (0 : Int) < 2147483587; decide)) H1 (Ex.refl H1) _ fun H2 e2 => ?_
    rw [ez]
    refine ⟨.ref p, rfl, p, [.int x, .int y], 1, 1, rfl, rfl, e2 _ _ hp1, rfl, ?_⟩
    have dr : Drew p H (upd H2 p (.lst [.int x, .int z])) := Drew.trans (H1 := H2) (Drew.of ⟨x, y, hp, hx, hy, hy2⟩ (e1.trans e2)) (Drew.set rfl hx m1.1 (by omega))
    have hp3 : (upd H2 p (.lst [.int x, .int z])) p = some (.lst [.int x, .int z]) := upd_same
    have ix : Ev (tOp (rIxL K) (tVar 0) (tC (.int 1))) [some (.ref p), some (.int b), none] (upd H2 p (.lst [.int x, .int z])) (.int z) := ev_op (ev_var rfl) ev_c (rv_ixL (sq_of hp3) (i1 z))
    refine s_ret (ev_op (ev_op (ev_op (ev_op ix ix (rv_I (.inl ⟨by omega, by omega⟩))) ev_c (rv_I (by show (0 : Int) < 2147483563; decide))) ev_c (rv_I ⟨by decide, by decide⟩)) (ev_var rfl) (rv_I (C := fun _ j => 0 < j) hb)) fun H3 e3 => ?_
    exact q _ H3 (Int.emod_nonneg _ (by omega)) (Int.emod_lt_of_pos _ hb) (dr.trans (Drew.of dr.pot e3))
theorem ok_choice {f : Addr} {fd : FuncData} {k : Nat} (F : Fun K "_law_choice" "_law_choice" sChoice f fd) (B : Blt mg) (D : Has P w K mg base k "_law_draw" ["_law_pot_here", "_law_bound"] spDraw) :
    FnG P w K mg base CX0 (k + 1) f fd ["_law_pot_here", "_law_options"] spChoice := by
  obtain ⟨fD, fdD, GD, bD, kD, gD⟩ := D.ex
  refine okG F scChoice (fun vs H Q E h => by obtain ⟨_, _, h⟩ := h; rcases h with ⟨_, _, rfl, _⟩ | ⟨_, rfl, _⟩ <;> rfl) (fun cdv A outer s H vs Q E hq hr h => ?_)
  obtain ⟨p, pot, h⟩ := h
  refine ⟨_, pss_one (ps_ret (pe_ix ix_seq (pv 1) (callG GD hq hr (by rfl) gD kD bD .nil pass0 (pa_cons (pv 0) (pa_cons (pe_callB call_len (by rfl) B.len bLen (pa_cons (pv 1) pa_nil)) pa_nil))) (fun _ _ => rfl))), ?_⟩
  have small : ∀ n : Nat, 0 < n → n ≤ 1000 → ((n : Int)).natAbs.log2 < 9000 := fun n h1 h2 => by
    have : (n : Int).natAbs = n := Int.natAbs_natCast n
    rw [this]
    have := (Nat.log2_lt (k := 10) (by omega)).mpr (show n < 2 ^ 10 by omega)
    omega
  rcases h with ⟨o, xs, rfl, ne, ho, h1, h2, q⟩ | ⟨z, rfl, h1, h2, q⟩
  · refine ⟨.ref o, rfl, .ref p, rfl, .ref o, rfl, .ref o, xs.length, rfl, .inl ⟨xs, sq_of ho, rfl⟩, p, (xs.length : Int), rfl, by omega, small _ h1 h2, pot, fun d H1 d0 d1 dr => ?_⟩
    obtain ⟨j, rfl⟩ := Int.eq_ofNat_of_zero_le d0
    have hj : j < xs.length := by omega
    exact .inl ⟨o, xs, (j : Int), xs[j], rfl, rfl, sq_of (dr.at ne ho), atI_nat (List.getElem?_eq_getElem hj), q _ H1 (List.getElem_mem hj) dr⟩
  · refine ⟨.str z, rfl, .ref p, rfl, .str z, rfl, .str z, z.length, rfl, ⟨sz_of (by omega), rfl⟩, p, (z.length : Int), rfl, by omega, small _ h1 h2, pot, fun d H1 d0 d1 dr => ?_⟩
    obtain ⟨j, rfl⟩ := Int.eq_ofNat_of_zero_le d0
    have hj : j < z.cps.toList.length := by
      have : z.cps.toList.length = z.length := by simp [Str.length]
      omega
    exact .inr (.inr ⟨z, (j : Int), z.cps.toList[j], rfl, rfl, sz_of (by omega), atI_nat (List.getElem?_eq_getElem hj), q _ H1 (List.getElem_mem hj) dr⟩)
end
end Cr
/-! what the top has left, gathered -/
namespace Cr
open PySem PySem.Spec PyProof.Rows L2 Evl
/-- a def of the top, as the head tells it -/
def DefAt (K : PySem.W.Frag) (x : Str) (st : Stmt) : Prop := ∃ (f : Addr) (od an : Option Addr) (sl : Array (Option Value)) (oc kV dc pm cd ct : Value),
  PySem.W.nsIn K mainGlobals x = some (some (.ref f)) ∧ K.lookup f = some ⟨oc, od, .func (PySem.W.fnOf x x (defArgs st) (defBody st) (defScope st) .none kV dc pm an cd ct), sl⟩ ∧ PySem.W.codeIn K cd x = true ∧ PySem.W.keepIn K (.ref f) = true
theorem defAt {K : PySem.W.Frag} {x : Str} {st : Stmt} {f : Addr} {od an : Option Addr} {sl : Array (Option Value)} {oc kV dc pm cd ct : Value} (a : PySem.W.nsIn K mainGlobals x = some (some (.ref f)))
    (l : K.lookup f = some ⟨oc, od, .func (PySem.W.fnOf x x (defArgs st) (defBody st) (defScope st) .none kV dc pm an cd ct), sl⟩) (c : PySem.W.codeIn K cd x = true) (k : PySem.W.keepIn K (.ref f) = true) : DefAt K x st :=
  ⟨f, od, an, sl, oc, kV, dc, pm, cd, ct, a, l, c, k⟩
/-- the binding of so many parameters -/
def BindsAll (x : Str) (st : Stmt) (ps : List Str) : Prop := ∀ (kV doc pm : Value) (an : Option Addr) (cdv ct : Value) (us : List Value), us.length = ps.length → bindArgs (PySem.W.fnOf x x (defArgs st) (defBody st) (defScope st) .none kV doc pm an cdv ct) ⟨us, []⟩ = pure (ps.zip us)
theorem has_mk {P : Program} {w : World} {K : PySem.W.Frag} {mg : Str → Option Value} {base h : Heap} {x : Str} {st : Stmt} {ps : List Str} {sp : Sp} {k : Nat} (X : K.In h) (G : h.Ns mainGlobals mg) (D : DefAt K x st) (hb : BindsAll x st ps)
    (ok : ∀ f fd, Fun K x x st f fd → FnG P w K mg base CX0 k f fd ps sp) : Has P w K mg base k x ps sp := by
  obtain ⟨f, od, an, sl, oc, kV, dc, pm, cd, ct, a, l, c, kp⟩ := D
  have F := fun_mk (st := st) l c kp
  exact ⟨⟨f, _, ok f _ F, F.binds hb, kp, PySem.W.mg_of X G a⟩⟩
theorem hasO_mk {P : Program} {w : World} {K : PySem.W.Frag} {mg : Str → Option Value} {base h : Heap} {x : Str} {st : Stmt} {ps : List Str} {sp : Sp} {k : Nat} (X : K.In h) (G : h.Ns mainGlobals mg) (D : DefAt K x st) (hb : BindsAll x st ps)
    (ok : ∀ f fd, Fun K x x st f fd → FnOk P w K mg base CX0 k f fd ps sp) : HasO P w K mg base k x ps sp := by
  obtain ⟨f, od, an, sl, oc, kV, dc, pm, cd, ct, a, l, c, kp⟩ := D
  have F := fun_mk (st := st) l c kp
  exact ⟨⟨f, _, ok f _ F, F.binds hb, kp, PySem.W.mg_of X G a⟩⟩
theorem hasE_mk {P : Program} {w : World} {K : PySem.W.Frag} {mg : Str → Option Value} {base h : Heap} {x : Str} {st : Stmt} {ps : List Str} {sp : Sp} {k : Nat} (X : K.In h) (G : h.Ns mainGlobals mg) (D : DefAt K x st) (hb : BindsAll x st ps)
    (ok : ∀ f fd, Fun K x x st f fd → FnOk P w K mg base (L2.CX P w) k f fd ps sp) : HasE P w K mg base k x ps sp := by
  obtain ⟨f, od, an, sl, oc, kV, dc, pm, cd, ct, a, l, c, kp⟩ := D
  have F := fun_mk (st := st) l c kp
  exact ⟨⟨f, _, ok f _ F, F.binds hb, kp, PySem.W.mg_of X G a⟩⟩
theorem Has.up {P : Program} {w : World} {K : PySem.W.Frag} {mg : Str → Option Value} {base : Heap} {x : Str} {ps : List Str} {sp : Sp} {j k : Nat} (h : Has P w K mg base j x ps sp) (le : j ≤ k) : Has P w K mg base k x ps sp := by
  obtain ⟨f, fd, G, b, kp, g⟩ := h.ex
  exact ⟨⟨f, fd, G.up le, b, kp, g⟩⟩
theorem HasC.up {P : Program} {w : World} {K : PySem.W.Frag} {mg : Str → Option Value} {base : Heap} {C : Addr} {j k : Nat} (h : HasC P w K mg base j C) (le : j ≤ k) : HasC P w K mg base k C := by
  obtain ⟨f, fd, G, b, b2, kp, g⟩ := h.ex
  exact ⟨⟨f, fd, fnUp G le, b, b2, kp, g⟩⟩
/-! ### tuples and the table of the top -/
/-! ### methods -/
def MethAt (K : PySem.W.Frag) (C : Addr) (m qual : Str) (st : Stmt) : Prop := ∃ (f : Addr) (od an : Option Addr) (sl : Array (Option Value)) (oc kV dc pm cd ct : Value),
  PySem.W.findIn K (.ref C) m = some (some (.ref f)) ∧ PySem.W.isFn K (.ref f) = true ∧ K.lookup f = some ⟨oc, od, .func (PySem.W.fnOf m qual (defArgs st) (defBody st) (defScope st) .none kV dc pm an cd ct), sl⟩ ∧ PySem.W.codeIn K cd qual = true ∧ PySem.W.keepIn K (.ref f) = true ∧ PySem.W.typeIn K (.ref f) = some (.type "function")
theorem methAt {K : PySem.W.Frag} {C : Addr} {m qual : Str} {st : Stmt} {f : Addr} {od an : Option Addr} {sl : Array (Option Value)} {oc kV dc pm cd ct : Value} (a : PySem.W.findIn K (.ref C) m = some (some (.ref f))) (i : PySem.W.isFn K (.ref f) = true)
    (l : K.lookup f = some ⟨oc, od, .func (PySem.W.fnOf m qual (defArgs st) (defBody st) (defScope st) .none kV dc pm an cd ct), sl⟩) (c : PySem.W.codeIn K cd qual = true) (k : PySem.W.keepIn K (.ref f) = true) (t : PySem.W.typeIn K (.ref f) = some (.type "function")) : MethAt K C m qual st :=
  ⟨f, od, an, sl, oc, kV, dc, pm, cd, ct, a, i, l, c, k, t⟩
def BindsM (m qual : Str) (st : Stmt) (ps : List Str) : Prop := ∀ (kV doc pm : Value) (an : Option Addr) (cdv ct : Value) (us : List Value), us.length = ps.length → bindArgs (PySem.W.fnOf m qual (defArgs st) (defBody st) (defScope st) .none kV doc pm an cdv ct) ⟨us, []⟩ = pure (ps.zip us)
theorem hasM_mk {P : Program} {w : World} {K : PySem.W.Frag} {mg : Str → Option Value} {base : Heap} {CX : CXT} {C : Addr} {m qual : Str} {st : Stmt} {ps : List Str} {sp : Sp} {k : Nat} (D : MethAt K C m qual st) (hb : BindsM m qual st ps)
    (ok : ∀ f fd, Fun K m qual st f fd → FnOk P w K mg base CX k f fd ps sp) : HasM P w K mg base CX k C m ps sp := by
  obtain ⟨f, od, an, sl, oc, kV, dc, pm, cd, ct, a, i, l, c, kp, t⟩ := D
  have F := fun_mk (st := st) l c kp
  exact ⟨⟨f, _, ok f _ F, F.binds hb, a, i, kp⟩⟩
/-! ### own errors -/
def ErrK (P : Program) (K : PySem.W.Frag) (C : Addr) (b : XB) (qual fld : Str) (st : Stmt) : Prop := ∃ (fI cda cc : Addr) (oc : Value) (od an : Option Addr) (kV doc pm ct : Value) (osl : Array (Option Value)),
  K.lookup fI = some ⟨oc, od, .func (PySem.W.ksFn "__init__" qual (defArgs st) (defBody st) (defScope st) .none kV doc pm an (.ref cda) ct cc), osl⟩ ∧ PySem.W.codeIn K (.ref cda) qual = true ∧ SupG P K C cda cc b ∧
  PySem.W.findIn K (.ref C) "__init__" = some (some (.ref fI)) ∧ PySem.W.typeIn K (.ref fI) = some (.type "function") ∧ PySem.W.findIn K (.ref C) fld = some none
theorem errK {P : Program} {K : PySem.W.Frag} {C fI cda cc : Addr} {b : XB} {qual fld : Str} {st : Stmt} {oc : Value} {od an : Option Addr} {kV doc pm ct : Value} {osl : Array (Option Value)} (i : PySem.W.findIn K (.ref C) "__init__" = some (some (.ref fI)))
    (l : K.lookup fI = some ⟨oc, od, .func (PySem.W.ksFn "__init__" qual (defArgs st) (defBody st) (defScope st) .none kV doc pm an (.ref cda) ct cc), osl⟩) (c : PySem.W.codeIn K (.ref cda) qual = true) (s : SupG P K C cda cc b)
    (t : PySem.W.typeIn K (.ref fI) = some (.type "function")) (p : PySem.W.findIn K (.ref C) fld = some none) : ErrK P K C b qual fld st := ⟨fI, cda, cc, oc, od, an, kV, doc, pm, ct, osl, l, c, s, i, t, p⟩
theorem oexG_mk {K : PySem.W.Frag} {C : Addr} {b : XB} {nm q : Str} {N : Addr} {bs bm : List Value} {sn : List Str} {sub : List Value} {ab : Bool} {col : Option Bool} {dd : Option Addr} {k0 k1 k2 k3 k5 : Option Value} (ok : b.Ok)
    (l : K.lookup C = some (excClassObj nm q C N bs bm true sn sub ab col dd k0 k1 k2 k3 k5 b.nw)) (m : downTo b.tl bm = true) (sa : PySem.W.findIn K (.ref C) "__setattr__" = some (some (.builtin "object.__setattr__")))
    (ex : PySem.W.subIn K (.ref C) (.type "BaseException") = some true) (ty : PySem.W.typeIn K (.ref C) = some (.type "type")) (kC : PySem.W.keepIn K (.ref C) = true) : OexG K C b :=
  ⟨ok, ⟨nm, q, N, bs, bm, sn, sub, ab, col, dd, k0, k1, k2, k3, k5, l, m⟩, sa, ex, ty, kC⟩
theorem supG_mk {P : Program} {K : PySem.W.Frag} {C cda cc : Addr} {b : XB} {ccl : Value} {cdd : Option Addr} {cvs : Array Value} {ccs : Array (Option Value)} {file : Str} {tf : Tok} {cl : Value} {cld : Option Addr} {csl : Array (Option Value)} (o : OexG K C b)
    (a : K.lookup cda = some ⟨ccl, cdd, .fields cvs, ccs⟩) (f2 : cvs[2]? = some (.str file tf)) (c : ((P.main.file : Str) == file) = true) (d : K.lookup cc = some ⟨cl, cld, .cell (some (.ref C)), csl⟩) (e : PySem.W.mroIn K C (.ref C) = some true)
    (f : PySem.W.nsIn K cStatics "thirdparty.any" = some none) (g : PySem.W.ks_superIn K C C "__init__" = some (some (.builtin b.ini))) (h : PySem.W.subIn K (.ref C) (.type b.B) = some true) (i : (P.main.scope.names.lookup ("super" : Str)).isSome = false) : SupG P K C cda cc b :=
  ⟨o, ⟨ccl, cdd, cvs, ccs, file, tf, a, f2, c⟩, ⟨cl, cld, csl, d⟩, e, f, g, h, i⟩
theorem errAt_of {P : Program} {K : PySem.W.Frag} {mg : Str → Option Value} {h : Heap} {C : Addr} {b : XB} {cn qual fld : Str} {st : Stmt} (X : K.In h) (G : h.Ns mainGlobals mg) (c : PySem.W.nsIn K mainGlobals cn = some (some (.ref C))) (e : ErrK P K C b qual fld st) : ∃ fI fd, ErrAt P K mg C fI fd b cn qual fld st := by
  obtain ⟨fI, cda, cc, oc, od, an, kV, doc, pm, ct, osl, l, cd, s, i, t, p⟩ := e
  exact ⟨fI, _, ⟨cda, cc, oc, od, an, kV, doc, pm, ct, osl, rfl, l, cd, s⟩, i, t, p, PySem.W.mg_of X G c⟩
end Cr
/-! o.m(k = v): a method called by keywords alone -/
/-! frames: pass_step -/
/-! the law's own: texts, names, numbers, steps -/
namespace Cr
open PySem PySem.Spec PyProof.Rows L2 Evl
/-! ### texts of letters -/
theorem join_cps : ∀ ws : List Str, (Txt.join ("" : Str) ws).cps.toList = ws.flatMap fun w => w.cps.toList := by
  have e0 : (("" : Str)).cps.toList = [] := by decide +kernel
  have h : ∀ ws : List Str, (Str.join ("" : Str) ws).cps.toList = ws.flatMap fun w => w.cps.toList := by
    intro ws
    induction ws with
    | nil => rfl
    | cons x r ih =>
      cases r with
      | nil => simp [Str.join]
      | cons y r =>
        rw [show Str.join ("" : Str) (x :: y :: r) = x ++ "" ++ Str.join "" (y :: r) from rfl, Str.cps_append, Str.cps_append, Array.toList_append, Array.toList_append, ih, e0, List.append_nil]
        simp
  intro ws
  rw [TL.join_eq]
  exact h ws
theorem len_toList (x : Str) : x.cps.toList.length = x.length := by simp [Str.length]
theorem name_of {x : Str} {cs : List Nat} (e : x.cps.toList = cs) (h1 : 1 ≤ cs.length) (h2 : cs.length ≤ 8) (h : ∀ c ∈ cs, isLow c = true) : isNameS x = true := by
  have l := len_toList x
  rw [e] at l
  unfold isNameS
  rw [e, decide_eq_true (show (1 : Int) ≤ x.length by omega), decide_eq_true (show (x.length : Int) ≤ 8 by omega), List.all_eq_true.mpr h]
  rfl
def isOne (w : Str) : Prop := ∃ c, w = ⟨#[c]⟩ ∧ isLow c = true
theorem join_ones : ∀ {ws : List Str}, (∀ w ∈ ws, isOne w) → ∃ cs : List Nat, (ws.flatMap fun w => w.cps.toList) = cs ∧ cs.length = ws.length ∧ ∀ c ∈ cs, isLow c = true
  | [], _ => ⟨[], rfl, rfl, by simp⟩
  | w :: r, h => by
    obtain ⟨c, rfl, hc⟩ := h w (List.mem_cons_self ..)
    obtain ⟨cs, e, l, ha⟩ := join_ones fun w hw => h w (List.mem_cons_of_mem _ hw)
    refine ⟨c :: cs, ?_, by simp [l], ?_⟩
    · rw [List.flatMap_cons, e]; rfl
    · intro d hd
      rcases List.mem_cons.mp hd with rfl | hd
      · exact hc
      · exact ha d hd
abbrev abc : Str := "abcdefghijklmnopqrstuvwxyz"
theorem abc_get (i : Nat) (h : i < 26) : abc.cps.toList[i]? = some (97 + i) := by
  have : ∀ i < 26, abc.cps.toList[i]? = some (97 + i) := by decide +kernel
  exact this i h
theorem low_of {i : Nat} (h : i < 26) : isLow (97 + i) = true := by
  unfold isLow
  rw [decide_eq_true (show 97 ≤ 97 + i by omega), decide_eq_true (show 97 + i ≤ 122 by omega)]; rfl
/-- pigeons -/
theorem pigeon : ∀ {ws us : List Str}, ws.Nodup → (∀ w ∈ ws, w ∈ us) → ws.length ≤ us.length
  | [], _, _, _ => Nat.zero_le _
  | w :: ws, us, nd, h => by
    have hw := h w (List.mem_cons_self ..)
    rw [List.nodup_cons] at nd
    have ih := pigeon (us := us.erase w) nd.2 fun x hx => (List.mem_erase_of_ne (fun e : x = w => nd.1 (by rw [← e]; exact hx))).mpr (h x (List.mem_cons_of_mem _ hx))
    rw [List.length_erase_of_mem hw] at ih
    have : 0 < us.length := List.length_pos_of_mem hw
    rw [List.length_cons]
    omega
def spare (i : Nat) : Str := ⟨#[97 + i / 26, 97 + i % 26, 113]⟩
theorem spare_name (i : Nat) (h : i < 676) : isNameS (spare i) = true := by
  refine name_of (x := spare i) (cs := [97 + i / 26, 97 + i % 26, 113]) rfl (by simp) (by simp) fun c hc => ?_
  simp only [List.mem_cons, List.not_mem_nil, or_false] at hc
  rcases hc with rfl | rfl | rfl
  · exact low_of (by omega)
  · exact low_of (by omega)
  · rfl
theorem inV_mem {z : Str} {us : List Str} : inV (.str z) (us.map V.str) = true ↔ z ∈ us := by
  rw [inV_strs, List.any_eq_true]
  constructor
  · rintro ⟨x, hx, e⟩
    rw [beq_iff_eq] at e
    exact e ▸ hx
  · intro h
    exact ⟨z, h, beq_self_eq_true z⟩
theorem Drew.mut {p D : Addr} {H H' : Hp} {o : HO} (d : Drew p H H') (hD : H D = none) (n : D ≠ p) : Drew p H (upd H' D o) := by
  refine ⟨fun a u h => ?_, ?_⟩
  · have hn := (wo_some h).1
    have hD' : a ≠ D := ne_of_none (wo_some h).2 hD
    have q := d.ex a u h
    rw [wo_ne hn] at q ⊢
    rw [upd_ne hD']
    exact q
  · obtain ⟨x, y, z, r⟩ := d.pot
    exact ⟨x, y, by rw [upd_ne n.symm]; exact z, r⟩
theorem Drew.neq {p q : Addr} {H H' : Hp} (d : Drew p H H') (h : H' q = none) : q ≠ p := fun e => by
  obtain ⟨x, y, z, _⟩ := d.pot
  rw [← e, h] at z
  cases z
theorem Drew.new {p q : Addr} {H H' : Hp} {o : HO} (d : Drew p H H') (h : H' q = none) : Drew p H (upd H' q o) := d.trans (Drew.of d.pot (Ex.new h))
theorem Drew.tps {p : Addr} {H H' : Hp} (d : Drew p H H') (hp : Pot H p) : Tps H H' := fun a xs h => d.at (fun e => by
  obtain ⟨x, y, z, _⟩ := hp
  rw [e, z] at h
  cases h) h
end Cr
/-! words of the law: _law_word, _law_words, as fourteen laws draw them -/
namespace Cr
open PySem PySem.Spec PyProof.Rows L2 Evl
abbrev sWord1 : Stmt := topS 16
abbrev sWords1 : Stmt := topS 17
abbrev nWord1 : List Str := ["_law_pot_here", "_law_used", "_law_letters", "_law_size", "_law_word_here", "_law_spare", "_law_turn", "_law_at", "_law_one"]
abbrev nWords1 : List Str := ["_law_pot_here", "_law_number", "_law_found", "_law_turn"]
theorem scWord1 : FnScope nWord1 ["_law_pot_here", "_law_used"] (defScope sWord1) := ⟨rfl, rfl, rfl, by decide +kernel, rfl, by decide +kernel, by decide +kernel⟩
theorem scWords1 : FnScope nWords1 ["_law_pot_here", "_law_number"] (defScope sWords1) := ⟨rfl, rfl, rfl, by decide +kernel, rfl, by decide +kernel, by decide +kernel⟩
theorem spare_inj {i j : Nat} (h : spare i = spare j) : i = j := by
  have e : (spare i).cps.toList = (spare j).cps.toList := by rw [h]
  have e' : [97 + i / 26, 97 + i % 26, 113] = [97 + j / 26, 97 + j % 26, 113] := e
  injection e' with e1 e2
  injection e2 with e2 _
  omega
theorem spare_nd2 (n : Nat) : ((List.range n).map spare).Nodup := List.Pairwise.map spare (fun _ _ h z => h (spare_inj z)) List.nodup_range
theorem spare_free2 {us : List Str} (h : us.length ≤ 600) : ∃ i, i < 676 ∧ spare i ∉ us := by
  refine Classical.byContradiction fun n => ?_
  have all : ∀ w ∈ (List.range 676).map spare, w ∈ us := fun w hw => by
    obtain ⟨i, hi, rfl⟩ := List.mem_map.mp hw
    exact Classical.byContradiction fun z => n ⟨i, List.mem_range.mp hi, z⟩
  have := pigeon (spare_nd2 676) all
  rw [List.length_map, List.length_range] at this
  omega
def spWord : Sp := fun vs H Q _ => ∃ (p u : Addr) (us : List Str), vs = [.ref p, .ref u] ∧ Pot H p ∧ u ≠ p ∧ H u = some (.lst (us.map V.str)) ∧ us.length ≤ 600 ∧ ∀ x H', isNameS x = true → x ∉ us → Drew p H H' → Q (.str x) H'
def spWords : Sp := fun vs H Q _ => ∃ (p : Addr) (n : Nat), vs = [.ref p, .int (n : Int)] ∧ Pot H p ∧ n ≤ 600 ∧
  ∀ (l : Addr) (xs : List Str) (H' : Hp), H l = none → H' l = some (.lst (xs.map V.str)) → xs.length = n → xs.Nodup → (∀ x ∈ xs, isNameS x = true) → Drew p H H' → Q (.ref l) H'
abbrev ten : List Str := ["module", "need", "try", "fail", "act", "thread", "retry", "unload", "ready", "a"]
theorem ten_name : ∀ x ∈ ten, isNameS x = true := by decide +kernel
theorem ten_get (j : Nat) (h : j < 10) : ∃ x, (ten.map V.str)[j]? = some (.str x) ∧ isNameS x = true := by
  have hl : j < ten.length := h
  exact ⟨ten[j], by rw [List.getElem?_map, List.getElem?_eq_getElem hl]; rfl, ten_name _ (List.getElem_mem hl)⟩
section
variable {P : Program} {w : World} {K : PySem.W.Frag} {mg : Str → Option Value} {base : Heap}
theorem ok_word1 {f : Addr} {fd : FuncData} {k : Nat} (F : Fun K "_law_word" "_law_word" sWord1 f fd) (B : Blt mg) (D : Has P w K mg base k "_law_draw" ["_law_pot_here", "_law_bound"] spDraw) :
    FnG P w K mg base CX0 (k + 1) f fd ["_law_pot_here", "_law_used"] spWord := by
  obtain ⟨fD, fdD, GD, bD, kD, gD⟩ := D.ex
  refine okG F scWord1 (fun vs H Q E h => by obtain ⟨_, _, _, rfl, _⟩ := h; rfl) (fun cdv A outer s H vs Q E hq hr h => ?_)
  obtain ⟨p, u, us, rfl, pot, un, hu, hl, q⟩ := h
  refine ⟨_, pss_cons (ps_set (i := 2) scWord1.nd rfl (.inr rfl) pe_str)
    (pss_cons (ps_set (i := 3) scWord1.nd rfl (.inl rfl) (pe_ix ix_list (pe_lst (pa_cons pe_int (pa_cons pe_int (pa_cons pe_int (pa_cons pe_int (pa_cons (pe_op op_add pe_int (callG GD hq hr (by rfl) gD kD bD .nil pass0 (pa_cons (pv 0) (pa_cons pe_int pa_nil)))) pa_nil)))))) (callG GD hq hr (by rfl) gD kD bD .nil pass0 (pa_cons (pv 0) (pa_cons pe_int pa_nil))) (fun _ _ => rfl)))
    (pss_cons (ps_set (i := 4) scWord1.nd rfl (.inl rfl) (pe_join pe_str (pe_lc (own := [("_law_turn", 6)]) (g := gName 6) (tt := tYes) rfl scWord1.nd (pi_range1 (by rfl) B.range (pa_cons (pv 3) pa_nil)) (blkOk_by (own := [("_law_turn", 6)]) (N := nWord1) (sc := defScope sWord1) (by decide +kernel))
        (fun _ _ _ _ _ => pg_name (i := 6) scWord1.nd rfl (Or.inl rfl)) (fun _ _ _ _ _ => pts_nil) (fun _ _ _ _ _ => pe_ix ix_str (pv 2) (callG GD hq hr (by rfl) gD kD bD .nil pass0 (pa_cons (pv 0) (pa_cons pe_int pa_nil))) (fun _ _ => rfl)))))
    (pss_cut (ps_if (pt_cmpR op_eq (callG GD hq hr (by rfl) gD kD bD .nil pass0 (pa_cons (pv 0) (pa_cons pe_int pa_nil))) pe_int (nomark _))
      (pss_one (ps_set (i := 4) scWord1.nd rfl (.inl rfl) (pe_ix ix_list (pe_lst (pa_cons pe_str (pa_cons pe_str (pa_cons pe_str (pa_cons pe_str (pa_cons pe_str (pa_cons pe_str (pa_cons pe_str (pa_cons pe_str (pa_cons pe_str (pa_cons pe_str pa_nil))))))))))) (callG GD hq hr (by rfl) gD kD bD .nil pass0 (pa_cons (pv 0) (pa_cons pe_int pa_nil))) (fun _ _ => rfl)))) pss_nil)
    (pss_cons (ps_if (pt_cmpR op_in_seq (pv 4) (pv 1) (by rfl))
      (pss_cons (ps_setLc (i := 5) (own := [("_law_at", 7)]) (g := gName 7) (tt := tYes) rfl scWord1.nd rfl rfl (sw_true rfl rfl rfl (by decide +kernel)) (pi_range1 (by rfl) B.range (pa_cons pe_int pa_nil)) (blkOk_by (own := [("_law_at", 7)]) (N := nWord1) (sc := defScope sWord1) (by decide +kernel))
        (fun _ _ _ _ _ => pg_name (i := 7) scWord1.nd rfl (Or.inl rfl)) (fun _ _ _ _ _ => pts_nil)
        (fun _ _ _ _ _ => pe_op op_add_str (pe_op op_add_str (pe_ix ix_str (pv 2) (pe_op op_fdiv (pv 7) pe_int) (fun _ _ => rfl)) (pe_ix ix_str (pv 2) (pe_op op_mod (pv 7) pe_int) (fun _ _ => rfl))) pe_str))
      (pss_one (ps_ret (pe_ix ix_list (pe_lc (own := [("_law_one", 8)]) (g := gName 8) (tt := tTest (tOp (rIn K true) (tVar 8) (tVar 1))) rfl scWord1.nd (pi_list (pv 5)) (blkOk_by (own := [("_law_one", 8)]) (N := nWord1) (sc := defScope sWord1) (by decide +kernel))
        (fun _ _ _ _ _ => pg_name (i := 8) scWord1.nd rfl (Or.inl rfl)) (fun _ _ _ _ _ => by exact pts_one (pt_cmpR op_notIn_seq (pv 8) (pv 1) (by rfl))) (fun _ _ _ _ _ => pv 8)) pe_int (fun _ _ => rfl))))) pss_nil)
    (pss_one (ps_ret (pv 4))))))), ?_⟩
  refine q_asg ev_c fun H0 e0 => ?_
  have r0 : Drew p H H0 := Drew.of pot e0
  refine q_asgAny ⟨.ref p, rfl, p, 8, rfl, by decide, by decide +kernel, r0.pot, fun c1 H1 a1 b1 r1 => ⟨1, c1, rfl, rfl, by show 5 ≤ sizeLine; decide, fun o ho => ?_⟩⟩
  have r01 := r0.trans r1
  have on : o ≠ p := r01.neq ho
  have r1' : Drew p H (upd H1 o (.lst [.int 1, .int 1, .int 2, .int 8, .int (1 + c1)])) := r01.new ho
  refine ⟨.ref p, rfl, p, 5, rfl, by decide, by decide +kernel, r1'.pot, fun d2 H2 a2 b2 r2 => ?_⟩
  obtain ⟨sz, hsz, s1, s8⟩ : ∃ sz : Nat, atI [V.int 1, V.int 1, V.int 2, V.int 8, V.int (1 + c1)] d2 = some (.int (sz : Int)) ∧ 1 ≤ sz ∧ sz ≤ 8 := by
    obtain ⟨j, rfl⟩ := Int.eq_ofNat_of_zero_le a2
    have hj : j = 0 ∨ j = 1 ∨ j = 2 ∨ j = 3 ∨ j = 4 := by omega
    rcases hj with rfl | rfl | rfl | rfl | rfl
    · exact ⟨1, atI_nat rfl, by omega, by omega⟩
    · exact ⟨1, atI_nat rfl, by omega, by omega⟩
    · exact ⟨2, atI_nat rfl, by omega, by omega⟩
    · exact ⟨8, atI_nat rfl, by omega, by omega⟩
    · refine ⟨(1 + c1).toNat, atI_nat (v := V.int (1 + c1)) rfl |>.trans ?_, by omega, by omega⟩
      congr 2; omega
  have r12 := r1'.trans r2
  refine ⟨o, _, d2, .int sz, rfl, rfl, sq_of (r2.at on upd_same), hsz, ?_⟩
  refine q_asgAny ⟨⟨"", rfl⟩, .int (sz : Int), rfl, sz, rfl, by omega, by omega, fun Dl hD => ?_⟩
  have Dn : Dl ≠ p := r12.neq hD
  have HD : H Dl = none := fresh_drew r12 pot hD
  refine lc_range (lo := 0) (n := (sz : Int).toNat) (fun i H3 => ∃ ws : List Str, H3 Dl = some (.lst (ws.map V.str)) ∧ ws.length = i ∧ (∀ w ∈ ws, isOne w) ∧ Drew p H H3)
    ⟨[], upd_same, rfl, by simp, r12.mut HD Dn⟩ (fun i H3 hi hP => ?_) (fun H3 hP => ?_)
  · obtain ⟨ws, hw, hlw, hone, dr⟩ := hP
    refine ⟨rfl, .str abc, rfl, .ref p, rfl, p, 26, rfl, by decide, by decide +kernel, dr.pot, fun d H4 da db dr4 => ?_⟩
    obtain ⟨j, rfl⟩ := Int.eq_ofNat_of_zero_le da
    have hj : j < 26 := by omega
    refine ⟨abc, (j : Int), 97 + j, rfl, rfl, by decide +kernel, atI_nat (abc_get j hj), ws.map V.str, dr4.at Dn hw, sz_lt (by rw [List.length_map]; omega), ws ++ [⟨#[97 + j]⟩], ?_, by simp [hlw], ?_, (dr.trans dr4).mut HD Dn⟩
    · rw [upd_same, List.map_append]; rfl
    · intro w hw'
      rcases List.mem_append.mp hw' with z | z
      · exact hone w z
      · rw [List.mem_singleton.mp z]
        exact ⟨97 + j, rfl, low_of hj⟩
  obtain ⟨ws, hw, hlw, hone, dr⟩ := hP
  obtain ⟨cs, ecs, lcs, hcs⟩ := join_ones hone
  have nm : isNameS (Txt.join "" ws) = true := name_of ((join_cps ws).trans ecs) (by omega) (by omega) hcs
  have lone : ∀ {ws : List Str}, (∀ w ∈ ws, isOne w) → (ws.map (·.length)).sum = ws.length := by
    intro ws
    induction ws with
    | nil => intro _; rfl
    | cons x r ih =>
      intro h
      obtain ⟨c, rfl, _⟩ := h _ (List.mem_cons_self ..)
      rw [List.map_cons, List.sum_cons, ih fun w hw => h w (List.mem_cons_of_mem _ hw), List.length_cons]
      show 1 + r.length = r.length + 1
      omega
  refine ⟨"", Dl, ws, rfl, rfl, .inl (sq_of hw), ?_, ?_⟩
  · have e0 : (("" : Str)).length = 0 := by decide +kernel
    rw [lone hone, e0]
    omega
  generalize hx : Txt.join ("" : Str) ws = x at nm
  refine q_cut (M := fun σ H' => ∃ x : Str, σ = [some (.ref p), some (.ref u), some (.str abc), some (.int (sz : Int)), some (.str x), none, none, none, none] ∧ isNameS x = true ∧ Drew p H H') ?_ ?_
  · refine ⟨.ref p, rfl, p, 12, rfl, by decide, by decide +kernel, dr.pot, fun c H5 c0 c12 r5 => ⟨rfl, _, rfl, ?_⟩⟩
    have r05 := dr.trans r5
    by_cases hc : V.int c = V.int 0
    · rw [decide_eq_true hc]
      refine ⟨by show 10 ≤ sizeLine; decide, fun o2 ho2 => ?_⟩
      have r06 : Drew p H (upd H5 o2 (.lst (ten.map V.str))) := r05.new ho2
      refine ⟨.ref p, rfl, p, 10, rfl, by decide, by decide +kernel, r06.pot, fun d H6 d0 d10 r6 => ?_⟩
      obtain ⟨j, rfl⟩ := Int.eq_ofNat_of_zero_le d0
      obtain ⟨y, hy, ny⟩ := ten_get j (by omega)
      exact ⟨o2, _, (j : Int), .str y, rfl, rfl, sq_of (r6.at (r05.neq ho2) upd_same), atI_nat hy, y, rfl, ny, r06.trans r6⟩
    · rw [decide_eq_false hc]
      exact ⟨x, rfl, nm, r05⟩
  rintro σ H4 ⟨x, rfl, nm, dr⟩
  have hu4 := dr.at un hu
  refine q_when (σ := [some (.ref p), some (.ref u), some (.str abc), some (.int (sz : Int)), some (.str x), none, none, none, none]) (et_test (ev_op (ev_var rfl) (ev_var rfl) (rv_isL (sq_of hu4) rfl (flat_strs _)))) (fun hb H5 e5 => ?_) (fun hb H5 e5 => s_ret (ev_var rfl) fun H6 e6 => q x H6 nm (fun z => by rw [inV_mem.mpr z] at hb; cases hb) (dr.trans (Drew.of dr.pot (e5.trans e6))))
  -- the spare ones
  have lc1 := el_lcW (wi := iRng1 (tCons (tC (.int 676)) tNil)) (g := gName 7) (tt := tYes) (te := tOp _ (tOp _ (tOp rIxS (tVar 2) (tOp (rI CDiv fun i j => .int (i / j)) (tVar 7) (tC (.int 26)))) (tOp rIxS (tVar 2) (tOp (rI (fun _ j => 0 < j) fun i j => .int (i % j)) (tVar 7) (tC (.int 26))))) (tC (.str "q"))) (vs := [7])
    (σ := [some (.ref p), some (.ref u), some (.str abc), some (.int (sz : Int)), some (.str x), none, none, none, none]) (H := H5) (n := 676) (Y := YFn fun i => .int (0 + i)) (fun _ => true) (fun i => .str (spare i)) (by decide)
    (fun H6 e6 R r => ⟨676, rfl, by decide, by decide, r H6 _ _ walk_range (fun _ _ _ z => z) (Ex.refl H6) trivial⟩)
    (fun i y H6 H7 e6 hi hy => by
      obtain ⟨rfl, rfl⟩ := hy
      refine ⟨Ex.refl _, [some (.ref p), some (.ref u), some (.str abc), some (.int (sz : Int)), some (.str x), none, none, some (.int (0 + i)), none], rfl, fun R r => r, fun H8 _ Q q => q H8 (Ex.refl H8), fun _ => ?_⟩
      have e0 : (0 : Int) + (i : Int) = (i : Int) := Int.zero_add _
      rw [e0]
      have ed : ((i : Int) / 26) = ((i / 26 : Nat) : Int) := by omega
      have em : ((i : Int) % 26) = ((i % 26 : Nat) : Int) := by omega
      have i1 : i / 26 < 26 := by omega
      have i2 : i % 26 < 26 := by omega
      refine ev_op (r := fun x y H Q => ∃ i j, x = .str i ∧ y = .str j ∧ i.length + j.length ≤ sizeLine ∧ Q (.str (i ++ j)) H) (x := .str (⟨#[97 + i / 26]⟩ ++ ⟨#[97 + i % 26]⟩))
        (ev_op (r := fun x y H Q => ∃ i j, x = .str i ∧ y = .str j ∧ i.length + j.length ≤ sizeLine ∧ Q (.str (i ++ j)) H)
          (ev_op (ev_var rfl) (ev_op (ev_var rfl) ev_c (rv_I ⟨by decide, by decide⟩)) (rv_ixS (by decide +kernel) (by rw [ed]; exact atI_nat (abc_get _ i1))))
          (ev_op (ev_var rfl) (ev_op (ev_var rfl) ev_c (rv_I (C := fun _ j => 0 < j) (by decide))) (rv_ixS (by decide +kernel) (by rw [em]; exact atI_nat (abc_get _ i2))))
          (rv_val fun H8 _ Q q => ⟨_, _, rfl, rfl, by show 2 ≤ sizeLine; decide, q⟩)) ev_c (rv_val fun H8 _ Q q => ⟨_, _, rfl, rfl, by show 3 ≤ sizeLine; decide, q⟩))
  have eg1 : given 676 (fun _ => true) (fun i => V.str (spare i)) = ((List.range 676).map spare).map V.str := by
    rw [given_all, List.map_map]; rfl
  rw [eg1] at lc1
  refine q_asgL lc1 fun L H6 hL e6 h6 => ?_
  have hu6 := e6 _ _ (e5 _ _ hu4)
  have lc2 := el_lcW (wi := iList K (tVar 5)) (g := gName 8) (tt := tTest (tOp (rIn K true) (tVar 8) (tVar 1))) (te := tVar 8) (vs := [8])
    (σ := [some (.ref p), some (.ref u), some (.str abc), some (.int (sz : Int)), some (.str x), some (.ref L), none, none, none]) (H := H6) (n := 676) (Y := YAt (((List.range 676).map spare).map V.str)) (fun i => !inV (.str (spare i)) (us.map V.str)) (fun i => .str (spare i)) (by decide)
    (fun H7 e7 R r => ⟨.ref L, rfl, L, rfl, ⟨_, sq_of (e7 _ _ h6)⟩, r H7 _ _ (by have z := walk_list (K := K) (a := L) (xs := ((List.range 676).map spare).map V.str); rw [List.length_map, List.length_map, List.length_range] at z; exact z) (fun _ _ e z => ex_l e z) (Ex.refl H7) (sq_of (e7 _ _ h6))⟩)
    (fun i y H7 H8 e7 hi hy => by
      obtain ⟨rfl, hy⟩ := hy
      have ey : y = .str (spare i) := by
        rw [List.getElem?_map, List.getElem?_map, List.getElem?_range hi] at hy
        exact (Option.some.inj hy).symm
      subst ey
      exact ⟨Ex.refl _, [some (.ref p), some (.ref u), some (.str abc), some (.int (sz : Int)), some (.str x), some (.ref L), none, none, some (.str (spare i))], rfl, fun R r => r, et_test (ev_op (ev_var rfl) (ev_var rfl) (rv_niL (sq_of (e7 _ _ hu6)) rfl (flat_strs _))), fun _ => ev_var rfl⟩)
  obtain ⟨i0, hi0, fi0⟩ := spare_free2 hl
  have mem : V.str (spare i0) ∈ given 676 (fun i => !inV (.str (spare i)) (us.map V.str)) (fun i => .str (spare i)) := by
    unfold given
    refine List.mem_map.mpr ⟨i0, List.mem_filter.mpr ⟨List.mem_range.mpr (by omega), ?_⟩, rfl⟩
    rw [Bool.not_eq_true']
    exact Bool.eq_false_iff.mpr fun z => fi0 (inV_mem.mp z)
  cases eg : given 676 (fun i => !inV (.str (spare i)) (us.map V.str)) (fun i => V.str (spare i)) with
  | nil => rw [eg] at mem; cases mem
  | cons y r =>
    have hy : y ∈ given 676 (fun i => !inV (.str (spare i)) (us.map V.str)) (fun i => V.str (spare i)) := by rw [eg]; exact List.mem_cons_self ..
    unfold given at hy
    obtain ⟨i1, h1, rfl⟩ := List.mem_map.mp hy
    have hi1 : i1 < 676 := List.mem_range.mp (List.mem_filter.mp h1).1
    rw [eg] at lc2
    refine s_ret (ev_opL1 lc2 (fun _ _ => ev_c) fun p2 H7 hp2 _ => rv_ixL (sq_of hp2) (atI_nat (j := 0) rfl)) fun H7 e7 => ?_
    have ni : spare i1 ∉ us := fun z => by
      have y := (List.mem_filter.mp h1).2
      rw [inV_mem.mpr z] at y
      cases y
    exact q _ H7 (spare_name i1 (by omega)) ni (dr.trans (Drew.of dr.pot ((e5.trans e6).trans e7)))
theorem ok_words1 {f : Addr} {fd : FuncData} {k : Nat} (F : Fun K "_law_words" "_law_words" sWords1 f fd) (B : Blt mg) (N : Has P w K mg base k "_law_word" ["_law_pot_here", "_law_used"] spWord) :
    FnG P w K mg base CX0 (k + 1) f fd ["_law_pot_here", "_law_number"] spWords := by
  obtain ⟨fN, fdN, GN, bN, kN, gN⟩ := N.ex
  refine okG F scWords1 (fun vs H Q E h => by obtain ⟨_, _, rfl, _⟩ := h; rfl) (fun cdv A outer s H vs Q E hq hr h => ?_)
  obtain ⟨p, n, rfl, pot, hn, q⟩ := h
  refine ⟨_, pss_cons (ps_set (i := 2) scWords1.nd rfl (.inl rfl) (pe_lst pa_nil))
    (pss_cons (ps_for PassesOwn.never rfl (pi_range1 (by rfl) B.range (pa_cons (pv 1) pa_nil)) (pg_name (i := 3) scWords1.nd rfl (.inl rfl))
      (pss_one (ps_expr (pe_bm PySem.F.plainAttrs_list PySem.F.slot_list_append PySem.F.type_list_append mt_append (pv 2) (pa_cons (callG GN hq hr (by rfl) gN kN bN .nil pass0 (pa_cons (pv 0) (pa_cons (pv 2) pa_nil))) pa_nil)))))
    (pss_one (ps_ret (pv 2)))), ?_⟩
  refine ⟨Nat.zero_le _, fun l hl => ?_⟩
  have d0 : Drew p H (upd H l (.lst [])) := Drew.of pot (Ex.new hl)
  have ln : l ≠ p := (Drew.refl pot).neq hl
  refine ⟨.int n, rfl, n, rfl, by omega, by omega, for_range (lo := 0) (n := (n : Int).toNat) (fun i σ H' => ∃ y3 xs, σ = [some (.ref p), some (.int n), some (.ref l), y3] ∧ H' l = some (.lst ((xs : List Str).map V.str)) ∧ xs.length = i ∧ xs.Nodup ∧ (∀ x ∈ xs, isNameS x = true) ∧ Drew p H H')
    ⟨none, [], rfl, upd_same, rfl, List.Pairwise.nil, by simp, d0⟩ (fun i σ H1 hi hP => ?_) (fun σ H1 hP => ?_)⟩
  · obtain ⟨y3, xs, rfl, h1, lx, nd, hx, dr⟩ := hP
    refine ⟨.ref l, rfl, .inl ⟨rfl, _, sq_of h1⟩, .ref p, rfl, .ref l, rfl, p, l, xs, rfl, dr.pot, ln, h1, by omega, fun x H2 nx fx dr2 => ?_⟩
    refine ⟨l, _, .str x, rfl, rfl, dr2.at ln h1, sz_lt (by rw [List.length_map]; omega), _, xs ++ [x], rfl, ?_, by simp [lx], List.nodup_append.mpr ⟨nd, List.pairwise_singleton _ _, fun a ha b hb e => fx (by rw [List.mem_singleton.mp hb] at e; exact e ▸ ha)⟩, ?_, (dr.trans dr2).mut hl ln⟩
    · rw [upd_same, List.map_append]; rfl
    · intro y hy
      rcases List.mem_append.mp hy with z | z
      · exact hx y z
      · rw [List.mem_singleton.mp z]; exact nx
  · obtain ⟨y3, xs, rfl, h1, lx, nd, hx, dr⟩ := hP
    exact ⟨.ref l, rfl, q l xs H1 hl h1 (by omega) nd hx dr⟩
end
end Cr
/-! errors: copied -/
namespace Cr
open PySem PySem.Spec PyProof.Rows L2 Evl
abbrev sCopied : Stmt := topS 2
abbrev nCopied : List Str := ["value", "item", "key"]
theorem scCopied : FnScope nCopied ["value"] (defScope sCopied) := ⟨rfl, rfl, rfl, by decide +kernel, rfl, by decide +kernel, by decide +kernel⟩
/-! ### what is new -/
def dif (H H' : Hp) : Hp := fun a => match H a with | none => H' a | some _ => none
theorem dif_at {H H' : Hp} {a : Addr} {o : HO} (h : H a = none) (h' : H' a = some o) : dif H H' a = some o := by unfold dif; rw [h]; exact h'
theorem dif_get {H H' : Hp} {a : Addr} {o : HO} (h : dif H H' a = some o) : H a = none ∧ H' a = some o := by
  unfold dif at h
  cases e : H a with
  | none => rw [e] at h; exact ⟨rfl, h⟩
  | some u => rw [e] at h; cases h
/-! ### what can be copied -/
def flatD : PyData → Bool
  | .none | .bool _ | .int _ | .str _ => true
  | _ => false
def kdis : List (PyData × PyData) → Bool
  | [] => true
  | e :: r => r.all (fun p => !PyData.eqv e.1 p.1) && kdis r
theorem kdis_nodup {H : Hp} : ∀ {kvs : List (Key × V)} {es : List (PyData × PyData)}, DtKv H kvs es → kdis es = true → (kvs.map (·.1)).Nodup
  | _, _, .nil, _ => List.nodup_nil
  | _, _, .cons (k := k) (kvs := kvs) (es := es) h t, z => by
    rw [kdis, Bool.and_eq_true] at z
    rw [List.map_cons]
    refine List.nodup_cons.mpr ⟨fun m => ?_, kdis_nodup t z.2⟩
    have mem : ∀ {kvs : List (Key × V)} {es : List (PyData × PyData)}, DtKv H kvs es → k ∈ kvs.map (·.1) → ∃ p ∈ es, p.1 = kD k := by
      intro kvs es h
      induction kvs generalizing es with
      | nil => intro m; exact nomatch m
      | cons kv kvs ih =>
        intro m
        cases h with
        | cons h1 h2 =>
          rcases List.mem_cons.mp m with e | e
          · exact ⟨_, List.mem_cons_self, congrArg kD e.symm⟩
          · obtain ⟨p, hp, he⟩ := ih h2 e
            exact ⟨p, List.mem_cons_of_mem _ hp, he⟩
    obtain ⟨p, hp, he⟩ := mem t m
    have y := List.all_eq_true.mp z.1 p hp
    rw [he] at y
    cases k with
    | inl i => simp [kD, PyData.eqv] at y
    | inr x => simp [kD, PyData.eqv] at y
mutual
def cpy : PyData → Bool
  | .none | .bool _ | .int _ | .str _ => true
  | .list xs | .tuple xs => decide (xs.length ≤ 1000) && cpyAll xs
  | .dict es => decide (es.length ≤ 1000) && es.all (fun p => flatD p.2) && kdis es
def cpyAll : List PyData → Bool
  | [] => true
  | x :: xs => cpy x && cpyAll xs
end
mutual
def dpt : PyData → Nat
  | .none | .bool _ | .int _ | .str _ => 0
  | .list xs | .tuple xs => dptAll xs + 1
  | .dict _ => 1
def dptAll : List PyData → Nat
  | [] => 0
  | x :: xs => max (dpt x) (dptAll xs)
end
theorem cpyAll_get : ∀ {ds : List PyData} {i : Nat} {d : PyData}, cpyAll ds = true → ds[i]? = some d → cpy d = true
  | x :: xs, 0, d, h, e => by
    simp at e; subst e
    rw [cpyAll, Bool.and_eq_true] at h
    exact h.1
  | x :: xs, i + 1, d, h, e => by
    rw [cpyAll, Bool.and_eq_true] at h
    exact cpyAll_get (i := i) h.2 (by simpa using e)
theorem dptAll_get : ∀ {ds : List PyData} {i : Nat} {d : PyData}, ds[i]? = some d → dpt d ≤ dptAll ds
  | x :: xs, 0, d, e => by
    simp at e; subst e
    rw [dptAll]
    exact Nat.le_max_left _ _
  | x :: xs, i + 1, d, e => by
    have := dptAll_get (i := i) (ds := xs) (by simpa using e)
    rw [dptAll]
    exact Nat.le_trans this (Nat.le_max_right _ _)
theorem flat_any {H H' : Hp} {v : V} {d : PyData} (h : Dt H v d) (f : flatD d = true) : Dt H' v d := by
  cases h with
  | non => exact .non
  | bl b => exact .bl b
  | int i => exact .int i
  | str x => exact .str x
  | _ => exact nomatch f
theorem flat_eq {H H' : Hp} {v v' : V} {d : PyData} (h : Dt H v d) (h' : Dt H' v' d) (f : flatD d = true) : v' = v := by
  cases h with
  | non => cases h'; rfl
  | bl b => cases h'; rfl
  | int i => cases h'; rfl
  | str x => cases h'; rfl
  | _ => exact nomatch f
theorem flatKv {H H' : Hp} : ∀ {kvs : List (Key × V)} {es : List (PyData × PyData)}, DtKv H kvs es → es.all (fun p => flatD p.2) = true → DtKv H' kvs es
  | _, _, .nil, _ => .nil
  | _, _, .cons h t, f => by
    rw [List.all_cons, Bool.and_eq_true] at f
    exact .cons (flat_any h f.1) (flatKv t f.2)
theorem kv_get {H : Hp} : ∀ {kvs : List (Key × V)} {es : List (PyData × PyData)} {i : Nat} {k : Key} {v : V}, DtKv H kvs es → kvs[i]? = some (k, v) → ∃ e, es[i]? = some e ∧ Dt H v e.2
  | _, _, 0, _, _, .cons h _, e => by
    simp at e
    obtain ⟨rfl, rfl⟩ := e
    exact ⟨_, rfl, h⟩
  | _, _, i + 1, _, _, .cons _ t, e => by
    obtain ⟨x, h1, h2⟩ := kv_get (i := i) t (by simpa using e)
    exact ⟨x, by simpa using h1, h2⟩
theorem valV_at {k : Key} {v : V} : ∀ {kvs : List (Key × V)} {i : Nat}, (kvs.map (·.1)).Nodup → kvs[i]? = some (k, v) → valV kvs k = some v ∧ valV (kvs.take i) k = none
  | kv :: r, 0, nd, e => by
    simp at e
    subst e
    exact ⟨valV_pos rfl, rfl⟩
  | kv :: r, i + 1, nd, e => by
    rw [List.map_cons] at nd
    obtain ⟨n1, n2⟩ := List.nodup_cons.mp nd
    have e' : r[i]? = some (k, v) := by simpa using e
    obtain ⟨h1, h2⟩ := valV_at n2 e'
    have ne : ¬ kv.1 = k := fun z => n1 (by rw [z]; exact List.mem_map.mpr ⟨(k, v), List.mem_of_getElem? e', rfl⟩)
    exact ⟨(valV_neg ne).trans h1, by rw [List.take_succ_cons, valV_neg ne]; exact h2⟩
def spCopied : Nat → Sp
  | 0 => fun _ _ _ _ => False
  | n + 1 => fun vs H Q _ => ∃ (v : V) (d : PyData), vs = [v] ∧ Dt H v d ∧ cpy d = true ∧ dpt d ≤ n ∧ ∀ v' H', Ex H H' → Dt (dif H H') v' d → Q v' H'
/-! ### a list of copies -/
structure Cop (H H' : Hp) (D : Addr) (ys : List V) (ds : List PyData) : Prop where
  ex : Ex H H'
  hD : H' D = some (.lst ys)
  dt : DtAll (dif (upd H D (.lst [])) H') ys ds
theorem Cop.add {H H' H2 : Hp} {D : Addr} {ys : List V} {ds : List PyData} {v : V} {d : PyData} (c : Cop H H' D ys ds) (zD : H D = none) (e2 : Ex H' H2) (hv : Dt (dif H' H2) v d) : Cop H (upd H2 D (.lst (ys ++ [v]))) D (ys ++ [v]) (ds ++ [d]) := by
  refine ⟨Ex.mut (c.ex.trans e2) zD, upd_same, ?_⟩
  have n0 : ∀ {a : Addr}, upd H D (.lst []) a = none → a ≠ D := fun h e => by rw [e, upd_same] at h; cases h
  have old : Ex (dif (upd H D (.lst [])) H') (dif (upd H D (.lst [])) (upd H2 D (.lst (ys ++ [v])))) := fun a o h => by
    obtain ⟨h1, h2⟩ := dif_get h
    exact dif_at h1 (by rw [upd_ne (n0 h1)]; exact e2 _ _ h2)
  have new : Ex (dif H' H2) (dif (upd H D (.lst [])) (upd H2 D (.lst (ys ++ [v])))) := fun a o h => by
    obtain ⟨h1, h2⟩ := dif_get h
    have aD : a ≠ D := fun e => by rw [e, c.hD] at h1; cases h1
    refine dif_at ?_ (by rw [upd_ne aD]; exact h2)
    rw [upd_ne aD]
    exact fresh_back c.ex h1
  exact DtAll.append (DtAll.ex old c.dt) (.cons (Dt.ex new hv) .nil)
theorem Cop.all {H H' : Hp} {D : Addr} {ys : List V} {ds : List PyData} (c : Cop H H' D ys ds) (zD : H D = none) : DtAll (dif H H') ys ds := by
  refine DtAll.ex (fun a o h => ?_) c.dt
  obtain ⟨h1, h2⟩ := dif_get h
  refine dif_at ?_ h2
  by_cases e : a = D
  · rw [e]; exact zD
  · rw [upd_ne e] at h1; exact h1
section
variable {P : Program} {w : World} {K : PySem.W.Frag} {mg : Str → Option Value} {base : Heap}
theorem ok_copied {f : Addr} {fd : FuncData} {n : Nat} (F : Fun K "copied" "copied" sCopied f fd) (B : Blt mg) (h0 : HasO P w K mg base n "copied" ["value"] (spCopied n)) : FnOk P w K mg base CX0 (n + 1) f fd ["value"] (spCopied (n + 1)) := by
  obtain ⟨fC, dC, GC, bC, kC, gC⟩ := h0.ex
  refine F.ok scCopied (fun vs H Q E h => by obtain ⟨_, _, rfl, _⟩ := h; rfl) (fun cdv A outer s H vs Q E hr h => ?_)
  obtain ⟨v, d, rfl, hd, hc, hn, q⟩ := h
  have hu := hu_of hr
  refine ⟨_, pss_cons (ps_if (pt_val (pe_callB call_isi (by rfl) B.isi bIsi (pa_cons (pv 0) (pa_cons (pe_bltn (v := .ty "list") (by rfl) B.list bList rfl) pa_nil)))) (pss_one (ps_ret
      (pe_lc (own := [("item", 1)]) (g := gName 1) (tt := tYes) rfl scCopied.nd (pi_list (pv 0)) (blkOk_by (own := [("item", 1)]) (N := nCopied) (sc := defScope sCopied) (by decide +kernel))
        (fun _ _ _ _ _ => pg_name (i := 1) scCopied.nd rfl (Or.inl rfl)) (fun _ _ _ _ _ => pts_nil) (fun _ _ _ _ _ => pe_call GC hr (by rfl) gC kC bC .nil pass0 (pa_cons (pv 1) pa_nil))))) pss_nil)
    (pss_cons (ps_if (pt_val (pe_callB call_isi (by rfl) B.isi bIsi (pa_cons (pv 0) (pa_cons (pe_bltn (v := .ty "tuple") (by rfl) B.tuple bTuple rfl) pa_nil)))) (pss_one (ps_ret (pe_callTy call_tuple_of (by rfl) B.tuple bTuple (pa_cons
      (pe_lc (own := [("item", 1)]) (g := gName 1) (tt := tYes) rfl scCopied.nd (pi_tup (pv 0)) (blkOk_by (own := [("item", 1)]) (N := nCopied) (sc := defScope sCopied) (by decide +kernel))
        (fun _ _ _ _ _ => pg_name (i := 1) scCopied.nd rfl (Or.inl rfl)) (fun _ _ _ _ _ => pts_nil) (fun _ _ _ _ _ => pe_call GC hr (by rfl) gC kC bC .nil pass0 (pa_cons (pv 1) pa_nil))) pa_nil)))) pss_nil)
    (pss_cons (ps_if (pt_val (pe_callB call_isi (by rfl) B.isi bIsi (pa_cons (pv 0) (pa_cons (pe_bltn (v := .ty "dict") (by rfl) B.dict bDict rfl) pa_nil)))) (pss_one (ps_ret (pe_lock
      (pe_dc (own := [("key", 2)]) (g := gName 2) (tt := tYes) (tk := tVar 2) (tv := tCall (spCopied n) [] E0 (tCons (tDGet (tVar 0) (tVar 2)) tNil)) rfl scCopied.nd (pi_keys (pv 0)) (blkOk_by (own := [("key", 2)]) (N := nCopied) (sc := defScope sCopied) (by decide +kernel))
        (fun _ _ _ _ _ => pg_name (i := 2) scCopied.nd rfl (Or.inl rfl)) (fun _ _ _ _ _ => pts_nil) (fun _ _ _ _ _ => pv 2) (fun _ _ _ _ _ => by exact pe_call GC hr (by rfl) gC kC bC .nil pass0 (pa_cons (pe_dget hu (pv 0) (pv 2) (fun _ _ => rfl)) pa_nil)))))) pss_nil)
    (pss_one (ps_ret (pv 0))))), ?_⟩
  have isv : ∀ {T : String} {H' : Hp}, T ∈ ["int", "bool", "str", "list", "tuple", "dict"] → Ex H H' → Ev (tCB (rIsi K) (tCons (tVar 0) (tCons (tC (.ty T)) tNil))) (L2.start nCopied [v]) H' (.bl (isT T d)) := fun hT e => ev_cb (ea_cons (ev_var rfl) (ea_cons ev_c ea_nil)) (rc_isi (Dt.ex e hd) hT)
  have cop0 : ∀ {D : Addr}, H D = none → Cop H (upd H D (.lst [])) D [] [] := fun zD => ⟨Ex.new zD, upd_same, .nil⟩
  have dep : ∀ {ds : List PyData} {i : Nat} {e : PyData}, cpyAll ds = true → dptAll ds + 1 ≤ n → ds[i]? = some e → ∀ {H' : Hp} {x : V} {Q' : VK}, Dt H' x e → (∀ v' H2, Ex H' H2 → Dt (dif H' H2) v' e → Q' v' H2) → spCopied n [x] H' Q' E0 := fun {ds i e} hca hdp he {H' x Q'} hx k => by
    cases n with
    | zero => omega
    | succ m =>
      have := dptAll_get he
      exact ⟨x, e, rfl, hx, cpyAll_get hca he, by omega, k⟩
  cases hd with
  | @lst a xs ds ha hxs =>
    rw [cpy, Bool.and_eq_true] at hc
    have hl : ds.length ≤ 1000 := of_decide_eq_true hc.1
    have lx := hxs.length
    rw [dpt] at hn
    refine q_when (b := true) (et_is (et_B (isv (by decide) (Ex.refl H))) rfl) (fun _ H1 e1 => ?_) (fun z => nomatch z)
    refine ⟨.ref a, rfl, a, rfl, ⟨_, sq_of (e1 _ _ ha)⟩, fun D zD => ?_⟩
    have zD0 := fresh_back e1 zD
    refine lc_list (fun i H' => ∃ ys, Cop H1 H' D ys (ds.take i)) ⟨[], Ex.new zD, upd_same, .nil⟩ (fun i H' _ h => by obtain ⟨ys, c⟩ := h; exact sq_of (c.ex _ _ (e1 _ _ ha))) (fun i x H' hx h => ?_) (fun H' h => ?_)
    · obtain ⟨ys, c⟩ := h
      obtain ⟨e, he, hxe⟩ := hxs.get hx
      have hi : i < ds.length := (List.getElem?_eq_some_iff.mp he).1
      have ly := c.dt.length
      rw [List.length_take] at ly
      refine ⟨rfl, x, rfl, ?_⟩
      dsimp only [tNil]
      refine dep hc.2 hn he (Dt.ex (e1.trans c.ex) hxe) fun v' H2 e2 hv' => ⟨ys, e2 _ _ c.hD, sz_lt (by omega), ys ++ [v'], ?_⟩
      have tk : ds.take (i + 1) = ds.take i ++ [e] := by
        rw [List.take_succ, he]
        rfl
      rw [tk]
      exact c.add zD e2 hv'
    · obtain ⟨ys, c⟩ := h
      rw [lx, List.take_length] at c
      refine q (.ref D) H' (e1.trans c.ex) (.lst (dif_at zD0 c.hD) (DtAll.ex (fun a o z => ?_) (c.all zD)))
      obtain ⟨z1, z2⟩ := dif_get z
      exact dif_at (fresh_back e1 z1) z2
  | @tup a xs ds ha hxs =>
    rw [cpy, Bool.and_eq_true] at hc
    have hl : ds.length ≤ 1000 := of_decide_eq_true hc.1
    have lx := hxs.length
    rw [dpt] at hn
    have hT : ∀ {H' : Hp}, Ex H H' → Dt H' (.ref a) (.tuple ds) := fun e => Dt.ex e (.tup ha hxs)
    refine q_when (b := false) (et_is (et_B (isv (by decide) (Ex.refl H))) rfl) (fun z => nomatch z) (fun _ H0 e0 => ?_)
    refine q_when (b := true) (et_is (et_B (isv (by decide) e0)) rfl) (fun _ H1 e01 => ?_) (fun z => nomatch z)
    have e1 := e0.trans e01
    refine ⟨.ref a, rfl, a, rfl, ⟨_, st_of (e1 _ _ ha)⟩, fun D zD => ?_⟩
    have zD0 := fresh_back e1 zD
    refine lc_tup (fun i H' => ∃ ys, Cop H1 H' D ys (ds.take i)) ⟨[], Ex.new zD, upd_same, .nil⟩ (fun i H' _ h => by obtain ⟨ys, c⟩ := h; exact st_of (c.ex _ _ (e1 _ _ ha))) (fun i x H' hx h => ?_) (fun H' h => ?_)
    · obtain ⟨ys, c⟩ := h
      obtain ⟨e, he, hxe⟩ := hxs.get hx
      have hi : i < ds.length := (List.getElem?_eq_some_iff.mp he).1
      have ly := c.dt.length
      rw [List.length_take] at ly
      refine ⟨rfl, x, rfl, ?_⟩
      dsimp only [tNil]
      refine dep hc.2 hn he (Dt.ex (e1.trans c.ex) hxe) fun v' H2 e2 hv' => ⟨ys, e2 _ _ c.hD, sz_lt (by omega), ys ++ [v'], ?_⟩
      have tk : ds.take (i + 1) = ds.take i ++ [e] := by
        rw [List.take_succ, he]
        rfl
      rw [tk]
      exact c.add zD e2 hv'
    · obtain ⟨ys, c⟩ := h
      rw [lx, List.take_length] at c
      refine ⟨D, ys, rfl, .inl ⟨sq_of c.hD, fun t zt => ?_⟩⟩
      have et := Ex.new (o := .tup ys) zt
      refine q (.ref t) _ ((e1.trans c.ex).trans et) (.tup (dif_at (fresh_back (e1.trans c.ex) zt) upd_same) (DtAll.ex (fun a o z => ?_) (c.all zD)))
      obtain ⟨z1, z2⟩ := dif_get z
      exact dif_at (fresh_back e1 z1) (et _ _ z2)
  | @dct a kvs es ha hkv =>
    rw [cpy, Bool.and_eq_true, Bool.and_eq_true] at hc
    have hl : es.length ≤ 1000 := of_decide_eq_true hc.1.1
    have lx := hkv.len
    have nd := kdis_nodup hkv hc.2
    rw [dpt] at hn
    refine q_when (b := false) (et_is (et_B (isv (by decide) (Ex.refl H))) rfl) (fun z => nomatch z) (fun _ H0 e0 => ?_)
    refine q_when (b := false) (et_is (et_B (isv (by decide) e0)) rfl) (fun z => nomatch z) (fun _ H01 e01 => ?_)
    refine q_when (b := true) (et_is (et_B (isv (by decide) (e0.trans e01))) rfl) (fun _ H1 e02 => ?_) (fun z => nomatch z)
    have e1 := (e0.trans e01).trans e02
    refine ⟨a, .dK kvs, e1 _ _ ha, trivial, fun od => ⟨.ref a, rfl, a, od, rfl, .inl ⟨kvs, upd_same, fun D zD => ?_⟩⟩⟩
    have Da : D ≠ a := fun e => by rw [e, upd_same] at zD; cases zD
    have zD1 : H1 D = none := by rw [upd_ne Da] at zD; exact zD
    have wk := walk_keys (d := a) (o := od) (kvs := kvs)
    refine ⟨fun i m H' => m = kvs.length - i ∧ i ≤ kvs.length ∧ H' a = some (.frz od (.dK kvs)) ∧ (∀ c o, c ≠ a → H1 c = some o → H' c = some o) ∧ H' D = some (.dK (kvs.take i)), ⟨kvs.length, rfl, Nat.zero_le _, by rw [upd_ne Da.symm, upd_same], fun c o nc h => by rw [upd_ne (ne_of_none h zD1), upd_ne nc]; exact h, upd_same⟩, ?_⟩
    rintro i m H' ⟨rfl, hi, ha', old, hD⟩
    by_cases hlt : i < kvs.length
    · refine .inr ⟨wk.goes i H' hlt ha', fun H2 => H2 a = some (.frz od (.dK kvs)) ∧ (∀ c o, c ≠ a → H1 c = some o → H2 c = some o) ∧ H2 D = some (.dK (kvs.take (i + 1))), fun H2 z => ⟨kvs.length - (i + 1), by omega, rfl, hlt, z.1, z.2.1, z.2.2⟩, fun x H2 y => ?_⟩
      obtain ⟨rfl, k, v, hk, rfl⟩ := wk.yields i H' x H2 hlt ha' y
      obtain ⟨g1, g2⟩ := valV_at nd hk
      obtain ⟨e, he, hve⟩ := kv_get hkv hk
      have fe : flatD e.2 = true := List.all_eq_true.mp hc.1.2 e (List.mem_of_getElem? he)
      refine ⟨rfl, kV k, rfl, .ref a, rfl, kV k, rfl, a, v, rfl, .inl ⟨kvs, k, .inr ⟨od, ha'⟩, rfl, g1.symm⟩, ?_⟩
      dsimp only [tNil]
      obtain ⟨n', rfl⟩ : ∃ n', n = n' + 1 := ⟨n - 1, by omega⟩
      refine ⟨v, e.2, rfl, flat_any hve fe, ?_, ?_, fun v' H3 e3 hv' => ?_⟩
      · cases hq : e.2 <;> rw [hq] at fe <;> first | rfl | exact nomatch fe
      · cases hq : e.2 <;> rw [hq] at fe <;> first | exact Nat.zero_le _ | exact nomatch fe
      · have ev := flat_eq hve hv' fe
        subst ev
        have hz : H2 a = some (.frz od (.dK kvs)) := ha'
        refine ⟨_, k, rfl, e3 _ _ hD, sz_lt (by rw [List.length_take]; omega), ?_, fun c o nc h => ?_, ?_⟩
        · rw [upd_ne Da.symm]; exact e3 _ _ hz
        · rw [upd_ne (ne_of_none h zD1)]; exact e3 _ _ (old c o nc h)
        · rw [upd_same, putK_new _ g2, List.take_succ, hk]; rfl
    · have ei : i = kvs.length := by omega
      subst ei
      rw [List.take_length] at hD
      refine .inl ⟨wk.stops H' ha', ha', ?_⟩
      refine q (.ref D) _ (fun c o h => ?_) (.dct (dif_at (fresh_back e1 zD1) (by rw [upd_ne Da]; exact hD)) (flatKv hkv hc.1.2))
      by_cases ec : c = a
      · rw [ec, upd_same]
        rw [ec, ha] at h
        exact h
      · rw [upd_ne ec]
        exact old c o ec (e1 _ _ h)
  | _ =>
    refine q_when (b := false) (et_is (et_B (isv (by decide) (Ex.refl H))) rfl) (fun z => nomatch z) (fun _ H1 e1 => ?_)
    refine q_when (b := false) (et_is (et_B (isv (by decide) e1)) rfl) (fun z => nomatch z) (fun _ H2 e2 => ?_)
    refine q_when (b := false) (et_is (et_B (isv (by decide) (e1.trans e2))) rfl) (fun z => nomatch z) (fun _ H3 e3 => ?_)
    refine ⟨_, rfl, q _ H3 ((e1.trans e2).trans e3) (by constructor)⟩
/-- at every depth -/
theorem copied_all {h : Heap} (X : K.In h) (G : h.Ns mainGlobals mg) (D : DefAt K "copied" sCopied) (B : Blt mg) : ∀ n : Nat, HasO P w K mg base n "copied" ["value"] (spCopied n)
  | 0 => hasO_mk X G D (fun _ _ _ _ _ _ us hl => match us, hl with | [_], _ => rfl) fun f fd F => ⟨fun _ _ _ _ z => z.elim, fun _ _ _ _ _ _ _ _ _ _ _ _ _ z => z.elim⟩
  | n + 1 => hasO_mk X G D (fun _ _ _ _ _ _ us hl => match us, hl with | [_], _ => rfl) fun f fd F => ok_copied F B (copied_all X G D B n)
end
end Cr
/-! own errors as values: made, asked, read -/
/-! super().__init__(..) first, then statements that call (Room is told) -/
namespace Cr
open PySem PySem.Spec PyProof.Rows L2 Evl
section
variable {P : Program} {w : World} {K : PySem.W.Frag} {mg : Str → Option Value} {base : Heap}
theorem okSupGR {name qual : Str} {params : Arguments} {scope : Scope} {dV kV doc pm ct oc : Value} {an od : Option Addr} {osl : Array (Option Value)} {f C cda cc : Addr} {b : XB} {N ps : List Str} {k : Nat} {sp : Sp}
    {p0 p1 p2 p3 p4 : Pos} {e : Expr} {es : List Expr} {rest : List Stmt} {ar : Arg}
    (lk : K.lookup f = some ⟨oc, od, .func (PySem.W.ksFn name qual params (.Expr (.Call (.Attribute (.Call (.Name "super" p0) [] [] p1) "__init__" p2) (e :: es) [] p3) p4 :: rest) scope dV kV doc pm an (.ref cda) ct cc), osl⟩)
    (hcd : PySem.W.codeIn K (.ref cda) qual = true) (S : SupScope N ps scope) (T : SupG P K C cda cc b) (hsup : mg "super" = none)
    (hp0 : (params.posonlyargs ++ params.args).head? = some ar) (hself : N[0]? = some ar.arg) (hps : ar.arg ∈ ps)
    (len : ∀ vs H Q E, sp vs H Q E → vs.length = ps.length)
    (hbody : ∀ (A : Around) (outer : List Env) (s : Shared) (H : Hp) (vs : List V) (Q : VK) (E : XK), Room k (A.deeper (PySem.W.ksEnv qual scope s.heap.objs.size f (.ref cda) cc)) → sp vs H Q E →
      ∃ (a : Addr) (ta : TA) (t : TS), (L2.start N vs)[0]? = some (some (.ref a)) ∧ H a = some (exo a C none) ∧ PA (cxSup P w K mg base N qual scope f cda cc A outer s H) (e :: es) ta ∧
        PSs (cxSup P w K mg base N qual scope f cda cc A outer s H) rest t ∧
        ta (L2.start N vs) H fun ws H1 => ws.length ≤ 1000 ∧ H1 a = some (exo a C none) ∧ t { nx := fun _ H' => Q .non H', rt := Q } (L2.start N vs) H1)
    {pl : Addr → Sem Bool}
    (hc : ∀ L : Addr, eval (.Call (.Attribute (.Call (.Name "super" p0) [] [] p1) "__init__" p2) (e :: es) [] p3) (PySem.W.ksEnv qual scope L f (.ref cda) cc) = (do
      let ov ← attributeBase (.Call (.Name "super" p0) [] [] p1) "__init__" (PySem.W.ksEnv qual scope L f (.ref cda) cc) (eval (.Call (.Name "super" p0) [] [] p1) (PySem.W.ksEnv qual scope L f (.ref cda) cc))
      standAt p2.atName
      let (fx, first) ← holding [ov] (getMethod ov "__init__" (pl L))
      callWith p3 fx first (backTo p3 (starEach (e :: es) (PySem.W.ksEnv qual scope L f (.ref cda) cc))) []) := by intro _; rfl)
    (hint : ∀ L : Addr, interactive (PySem.W.ksEnv qual scope L f (.ref cda) cc) = false := by intro _; rfl)
    (hsw : ∀ L : Addr, swapsWith (.Call (.Attribute (.Call (.Name "super" p0) [] [] p1) "__init__" p2) (e :: es) [] p3) none p4.line (PySem.W.ksEnv qual scope L f (.ref cda) cc) = pure false := by intro _; rfl)
    (he : ∀ L : Addr, starEach (e :: es) (PySem.W.ksEnv qual scope L f (.ref cda) cc) = (false, eval e (PySem.W.ksEnv qual scope L f (.ref cda) cc)) :: starEach es (PySem.W.ksEnv qual scope L f (.ref cda) cc) := by intro _; rfl)
    (hpl : ∀ L : Addr, (backTo p3 (starEach es (PySem.W.ksEnv qual scope L f (.ref cda) cc))).any (·.1) = false := by intro _; rfl) :
    FnOk P w K mg base CX0 (k + 1) f (PySem.W.ksFn name qual params (.Expr (.Call (.Attribute (.Call (.Name "super" p0) [] [] p1) "__init__" p2) (e :: es) [] p3) p4 :: rest) scope dV kV doc pm an (.ref cda) ct cc) ps sp := by
  refine ⟨len, fun A outer s H args us vs Q E hr e0 hb r hsp => ?_⟩
  have keepB : ∀ b o, base.get? b = some o → s.heap.get? b = some o := fun b o e => (e0.bs b o e).1
  obtain ⟨cl, cld, csl, hcell⟩ := T.cell
  obtain ⟨ccl, cdd, cvs, ccs, file, tf, hcode, hvs, hfile⟩ := T.code
  refine ks_codeAny_call_defAt (fd := PySem.W.ksFn name qual params _ scope dV kV doc pm an (.ref cda) ct cc) (binds := ps.zip us) hr.depth ((e0.mod.kin.keeps keepB) _ _ lk) rfl (e0.mod.nolimit.keeps keepB) (PySem.W.codeRec_of (e0.mod.kin.keeps keepB) hcd) rfl hb S.nocell
    (fun x hx => S.par x.1 (List.of_mem_zip (show (x.1, x.2) ∈ ps.zip us from hx)).1) (fun h₁ hns hk => ?_) S.co S.gen S.kind
  obtain ⟨a, ta, t, hs0, hea, hta, ht, hT⟩ := hbody A outer s H vs Q E (hr.deeper _) hsp
  have I : Inv (cxSup P w K mg base N qual scope f cda cc A outer s H) [] (L2.start N vs) H { s with heap := h₁, toks := s.toks + (ps.zip us).length } := inv_sup S hr.hd e0 (len _ _ _ _ hsp) r hcell hns hk
  have kIn := I.kIn
  obtain ⟨m, hn, hlk⟩ := I.loc
  obtain ⟨u0, hu0, hl0⟩ := hlk 0 ar.arg (.ref a) hself hs0 (.inl (S.par _ hps))
  obtain rfl : u0 = Value.ref a := hu0
  have hma : m ar.arg = some (.ref a) := by
    rcases hl0 with ⟨_, z⟩ | ⟨z, _⟩
    · exact z
    · have k1 : scope.names.lookup ar.arg = some .local := S.par _ hps
      rcases z with z | z
      · have z' : scope.names.lookup ar.arg = some .cell := z
        rw [k1] at z'; cases z'
      · have z' : scope.names.lookup ar.arg = some .free := z
        rw [k1] at z'; cases z'
  obtain ⟨t1, ho⟩ := exo_at I.hok hea
  obtain ⟨nm, q, N', bs, bm, sn, sub, ab, col, dd, k0, k1, k2, k3, k5, hC, hbm⟩ := T.oex.cls
  have hcl : PySem.W.clsIn K C = some { name := nm, bases := bs, mro := .ref C :: bm, ns := N', qualname := q, hasDict := true, slotNames := sn, subclasses := sub, abstract := ab, collection := col, hasDel := false } := by unfold PySem.W.clsIn; rw [hC] <;> rfl
  obtain ⟨mb, hmb, hbb⟩ := I.mod.blt
  have J : PySem.W.InstAt h₁ a { cls := .ref C, dict := none, data := .fields #[.ref t1, .none, .none, .none, .bool false, .none] } C none := ⟨ho, rfl, rfl, trivial⟩
  have hne : a ≠ C := PySem.W.ks_ne kIn J hcl
  show PySem.wpAt (model P w) (A.deeper (PySem.W.ksEnv qual scope s.heap.objs.size f (.ref cda) cc)) (.func _ (PySem.W.ksEnv qual scope s.heap.objs.size f (.ref cda) cc)) (execs _ (PySem.W.ksEnv qual scope s.heap.objs.size f (.ref cda) cc)) _ _ _
  refine ks_wpAt_execs_cons (ks_wpAt_Expr_any (ks_wpAt_MethodCall (pl := pl s.heap.objs.size) (ks_wpAt_super_base (f := f) S.sup S.cls (by decide) rfl (kIn _ _ lk) rfl hp0 rfl (kIn _ _ hcode) rfl hvs hfile T.top ?_) (hc _)) (hint _) (hsw _))
  refine PySem.W.ks_loadName_global S.kind S.sup (PySem.Calls.loadGlobal_builtin (mg := mg) (mb := mb) (I.mod.glob.keeps I.bk) hsup (hmb.keeps I.bk) ((hbb _ (by decide +kernel)).trans (by first | boot_by_name | rfl | kernel_rfl)) ⟨rfl, ?_⟩)
  refine wpAny_loadName_free S.kind S.cls rfl ⟨_, kIn _ _ hcell, rfl⟩ ?_
  refine wpAny_loadName_local S.kind (S.par _ hps) hn hma ?_
  refine ks_wpAny_isType_cls (kIn _ _ hC) rfl ⟨rfl, ?_⟩
  refine ks_wpAny_call_super (kIn _ _ hC) rfl ho rfl (fun c z => by cases z) (PySem.W.looks_mroIn kIn T.self) (fun h2 e2 kk2 => ?_)
  have I2 : Inv (cxSup P w K mg base N qual scope f cda cc A outer s H) [] (L2.start N vs) H { s with heap := h2, toks := s.toks + (ps.zip us).length } := I.kept (t' := s.toks + (ps.zip us).length) kk2
  have hm2 := T.up
  unfold PySem.W.ks_superIn at hm2
  rw [hcl] at hm2
  have J2 : PySem.W.InstAt h2 a { cls := .ref C, dict := none, data := .fields #[.ref t1, .none, .none, .none, .bool false, .none] } C none := ⟨kk2 _ _ ho, rfl, rfl, trivial⟩
  refine PySem.W.kxs_getMethod T.oex.ok.sup e2 (PySem.W.looks_opaque I2.kIn T.opq) (l₀ := .ref C :: bm) (fun A Q E s k q => wpAny_bind ((PySem.W.looks_clsIn I2.kIn hcl) A _ E s k (wpAny_pure q))) rfl I2.kIn hm2
    (J2.type.andThen (PySem.W.looks_subIn I2.kIn T.sub)) hne (by decide) ?_
  have kk3 : ∀ b' o, h2.get? b' = some o → (h2.push (PySem.W.kxs_mw b.ini a)).get? b' = some o := fun b' o z => Heap.get?_push_of_some _ z
  have I3 : Inv (cxSup P w K mg base N qual scope f cda cc A outer s H) [] (L2.start N vs) H { s with heap := h2.push (PySem.W.kxs_mw b.ini a), toks := s.toks + (ps.zip us).length + 1 } := I2.kept (t' := s.toks + (ps.zip us).length + 1) kk3
  have I4 : Inv (cxSup P w K mg base N qual scope f cda cc A outer s H) [(h2.objs.size, PySem.W.kxs_mw b.ini a)] (L2.start N vs) H { s with heap := h2.push (PySem.W.kxs_mw b.ini a), toks := s.toks + (ps.zip us).length + 1 } :=
    ⟨I3.ok, I3.os, I3.bare, I3.base, I3.loc, I3.cell, I3.free, I3.freeC, fun p hp => by
      have hp' : p = (h2.objs.size, PySem.W.kxs_mw b.ini a) := List.mem_singleton.mp hp
      subst hp'
      exact ⟨Heap.get?_push_at rfl rfl, I2.hok.fresh (Nat.le_refl _), Nat.ne_of_gt I2.lt, I2.nofs (Nat.le_refl _), fun v z => by cases z⟩, I3.hok, I3.len⟩
  have hev := he s.heap.objs.size
  have hpv := hpl s.heap.objs.size
  show wpAny (model P w) _ (callWith p3 (.ref h2.objs.size) [] (backTo p3 (starEach (e :: es) (PySem.W.ksEnv qual scope s.heap.objs.size f (.ref cda) cc))) []) _ _ _
  have ru := hta.run p3 _ _ _ _ _ I4 hT
  have ru' : wpAny (model P w) (A.deeper (PySem.W.ksEnv qual scope s.heap.objs.size f (.ref cda) cc)) (spliced (backTo p3 (starEach (e :: es) (PySem.W.ksEnv qual scope s.heap.objs.size f (.ref cda) cc)))) _ (fun _ _ => False) _ := ru
  rw [hev] at ru' ⊢
  refine PySem.W.kxs_callWith (i := b.ini) (x := a) (by show (false || (backTo p3 (starEach es _)).any (·.1)) = false; rw [hpv]; rfl) (PySem.Calls.evalArgs_plain ?_)
  refine wpAny_mono ru' (fun ws s5 h5 => ?_) fun _ _ z => z.elim
  obtain ⟨vs5, H5, I5, r5, hl5, he5, hT5⟩ := h5
  have hu5 := (I5.pin _ (List.mem_append_right _ List.mem_cons_self)).1
  refine ⟨hu5, ?_⟩
  refine boundG T.oex I5 he5 hu5 (by show ws.length ≤ sizeLine; rw [← Paired.length r5, sizeLine_eq]; omega) fun s6 I6 => ?_
  have go := ht.run _ _ _ _ _ I6 hT5
  refine wpAt_of_wpAny ?_
  refine wpAny_mono go (fun fl s7 h7 => ?_) fun _ _ z => z.elim
  match fl, h7 with
  | .ret u, ⟨v, σ2, H2, J7, rv, q7⟩ => exact ⟨v, H2, J7.os, J7.bare, J7.base, J7.hok, rv, q7⟩
  | .next, ⟨σ2, H2, J7, q7⟩ => exact ⟨V.non, H2, J7.os, J7.bare, J7.base, J7.hok, rfl, q7⟩
  | .brk, ⟨_, _, _, q7⟩ => exact q7.elim
  | .cont, ⟨_, _, _, q7⟩ => exact q7.elim
end
end Cr
/-! errors with one value that is copied -/
namespace Cr
open PySem PySem.Spec PyProof.Rows L2 Evl
/-- its __init__: a copy of the value in the field f -/
def spInitC (C : Addr) (f : Str) (n : Nat) : Sp := fun vs H Q _ => ∃ (a : Addr) (v : V) (d : PyData), vs = [.ref a, v] ∧ Dt H v d ∧ cpy d = true ∧ dpt d < n ∧ H a = some (exo a C none) ∧
  ∀ v' H' dx, Ex H H' → Dt (dif H H') v' d → H' dx = none → dx ≠ a → Q .non (upd (upd H' dx (exd dx [(f, v')])) a (exo a C (some dx)))
abbrev sIInvalidName : Stmt := inClass (topS 4) 0
theorem scIInvalidName : SupScope ["self", "value"] ["self", "value"] (defScope sIInvalidName) := ⟨rfl, rfl, rfl, by decide +kernel, rfl, by decide +kernel, by decide +kernel, by decide +kernel, by decide +kernel, by decide +kernel⟩
section
variable {P : Program} {w : World} {K : PySem.W.Frag} {mg : Str → Option Value} {base : Heap}
theorem ok_iInvalidName {C fI : Addr} {fd : FuncData} {b : XB} {k : Nat} (T : ErrAt P K mg C fI fd b "InvalidName" "InvalidName.__init__" "value" sIInvalidName) (B : Blt mg) (h1 : HasO P w K mg base k "copied" ["value"] (spCopied k)) : FnOk P w K mg base CX0 (k + 1) fI fd ["self", "value"] (spInitC C "value" k) := by
  obtain ⟨f1, d1, G1, b1, k1, g1⟩ := h1.ex
  obtain ⟨cda, cc, oc, od, an, kV, doc, pm, ct, osl, rfl, lk, hcd, S⟩ := T.ex
  refine okSupGR lk hcd scIInvalidName S B.sup rfl rfl (by decide) (fun vs H Q E h => by obtain ⟨_, _, _, rfl, _⟩ := h; rfl) (fun A outer s H vs Q E hr h => ?_)
  obtain ⟨a, v, d, rfl, hd, hc, hn, ha, q⟩ := h
  refine ⟨a, _, _, rfl, ha, pa_cons pe_str pa_nil, pss_one (ps_ostG (pv 0) (pe_call (E := E0) G1 hr (by rfl) g1 k1 b1 .nil pass0 (pa_cons (pv 1) pa_nil))), ?_⟩
  refine ⟨by show 1 ≤ 1000; decide, ha, v, rfl, ?_⟩
  cases k with
  | zero => omega
  | succ n => exact ⟨v, d, rfl, hd, hc, by omega, fun v' H' e' hv' => ⟨.ref a, rfl, a, C, b, rfl, S.oex, T.no, .inl ⟨e' _ _ ha, fun dx hdx ne => q v' H' dx e' hv' hdx ne⟩⟩⟩
end
end Cr
/-! errors with two values -/
/-! errors whose second value is copied -/
/-! own errors as they are made and raised, by the data of their fields -/
namespace Cr
open PySem PySem.Spec PyProof.Rows L2 Evl
def cpyTo (n : Nat) (d : PyData) : Prop := cpy d = true ∧ dpt d < n
def MkErr (P : Program) (w : World) (K : PySem.W.Frag) (mg : Str → Option Value) (base : Heap) (k : Nat) (C : Addr) (cn : Str) (m : Nat) (sp : Sp) : Prop :=
  ∃ (fI : Addr) (fd : FuncData) (b : XB) (ps : List Str), ps.length = m + 1 ∧ OexG K C b ∧ FnOk P w K mg base CX0 k fI fd ps sp ∧ Binds K fd ps [] ∧ PySem.W.findIn K (.ref C) "__init__" = some (some (.ref fI)) ∧ PySem.W.typeIn K (.ref fI) = some (.type "function") ∧ mg cn = some (.ref C)
theorem mkErr_of {P : Program} {w : World} {K : PySem.W.Frag} {mg : Str → Option Value} {base : Heap} {k m : Nat} {C fI : Addr} {fd : FuncData} {b : XB} {cn qual fld : Str} {st : Stmt} {ps : List Str} {sp : Sp} (T : ErrAt P K mg C fI fd b cn qual fld st) (hm : ps.length = m + 1) (G : FnOk P w K mg base CX0 k fI fd ps sp)
    (hb : ∀ (kV doc pm ct : Value) (an : Option Addr) (cda cc : Addr) (us : List Value), us.length = ps.length → bindArgs (PySem.W.ksFn "__init__" qual (defArgs st) (defBody st) (defScope st) .none kV doc pm an (.ref cda) ct cc) ⟨us, []⟩ = pure (ps.zip us)) : MkErr P w K mg base k C cn m sp := by
  obtain ⟨cda, cc, oc, od, an, kV, doc, pm, ct, osl, rfl, lk, hcd, S⟩ := T.ex
  exact ⟨fI, _, b, ps, hm, S.oex, G, .all fun us hl => hb kV doc pm ct an cda cc us hl, T.init, T.fn, T.at_⟩
/-- raised with the datum d in the field f -/
structure Rsd1 (H H' : Hp) (dx : Addr) (f : Str) (d : PyData) : Prop where
  new : H dx = none
  ex : Ex H H'
  at_ : ∃ v, H' dx = some (.xd [(f, v)]) ∧ Dt H' v d
/-- .. with two -/
structure Rsd2 (H H' : Hp) (dx : Addr) (f g : Str) (d e : PyData) : Prop where
  new : H dx = none
  ex : Ex H H'
  at_ : ∃ v u, H' dx = some (.xd [(g, u), (f, v)]) ∧ Dt H' v d ∧ Dt H' u e
theorem Rsd1.back {H0 H H' : Hp} {dx : Addr} {f : Str} {d : PyData} (r : Rsd1 H H' dx f d) (e : Ex H0 H) : Rsd1 H0 H' dx f d := ⟨fresh_back e r.new, e.trans r.ex, r.at_⟩
theorem Rsd2.back {H0 H H' : Hp} {dx : Addr} {f g : Str} {d e' : PyData} (r : Rsd2 H H' dx f g d e') (e : Ex H0 H) : Rsd2 H0 H' dx f g d e' := ⟨fresh_back e r.new, e.trans r.ex, r.at_⟩
section
variable {C : Addr} {f g : Str} {n : Nat} {ta : TA} {σ : L2.St} {H : Hp} {Q : XK}
theorem mk_cpy (h : ta σ H fun vs H1 => ∃ v d, vs = [v] ∧ Dt H1 v d ∧ cpyTo n d ∧ ∀ dx H', Rsd1 H1 H' dx f d → Q (.ref C) (some dx) H')
    (mono : ∀ {σ : L2.St} {H : Hp} {R S : List V → Hp → Prop}, (∀ vs H1, R vs H1 → S vs H1) → ta σ H R → ta σ H S) : tMkO C (spInitC C f n) [] ta σ H Q := by
  refine mono (fun vs H1 hh => ?_) h
  obtain ⟨v, d, rfl, hd, ⟨c1, c2⟩, q⟩ := hh
  refine ⟨by show 1 ≤ 1000; decide, fun a ha => ⟨a, v, d, rfl, Dt.ex (Ex.new ha) hd, c1, c2, upd_same, fun v' H' dx e1 hv hx ne => ⟨rfl, dx, [(f, v')], upd_same, ?_, ?_, ?_⟩⟩⟩
  · rw [upd_ne ne, upd_same]
  · cases z : H1 dx with
    | none => rfl
    | some o => rw [e1 dx o (by rw [upd_ne ne]; exact z)] at hx; cases hx
  · have z1 : H1 dx = none := by
      cases z : H1 dx with
      | none => rfl
      | some o => rw [e1 dx o (by rw [upd_ne ne]; exact z)] at hx; cases hx
    refine q dx _ ⟨z1, fun b o hb => ?_, v', upd_same, Dt.ex (fun b o hb => ?_) hv⟩
    · have na : b ≠ a := ne_of_none hb ha
      have nx : b ≠ dx := ne_of_none hb z1
      rw [upd_ne nx, del_ne na, upd_ne na, upd_ne nx]
      exact e1 b o (by rw [upd_ne na]; exact hb)
    · obtain ⟨zb, h1⟩ := dif_get hb
      have na : b ≠ a := fun q => by rw [q, upd_same] at zb; cases zb
      have nx : b ≠ dx := ne_of_none h1 hx
      rw [upd_ne nx, del_ne na, upd_ne na, upd_ne nx]
      exact h1
end
end Cr
/-! the order of texts and of pairs of texts; sorted of data -/
namespace Cr
open PySem PySem.Spec PyProof.Rows L2 Evl
/-! ### texts -/
def leS (x y : Str) : Bool := decide (x.cps.toList ≤ y.cps.toList)
def ltS (x y : Str) : Prop := x.cps.toList < y.cps.toList
theorem leS_trans (x y z : Str) (h1 : leS x y = true) (h2 : leS y z = true) : leS x z = true := decide_eq_true (List.le_trans (of_decide_eq_true h1) (of_decide_eq_true h2))
theorem leS_total (x y : Str) : (leS x y || leS y x) = true := by
  rcases List.le_total (x.cps.toList) (y.cps.toList) with h | h
  · rw [show leS x y = true from decide_eq_true h, Bool.true_or]
  · rw [show leS y x = true from decide_eq_true h, Bool.or_true]
theorem leS_anti {x y : Str} (h1 : leS x y = true) (h2 : leS y x = true) : x = y := PySem.W.str_of_cps (List.le_antisymm (of_decide_eq_true h1) (of_decide_eq_true h2))
theorem ltS_irrefl (x : Str) : ¬ ltS x x := List.lt_irrefl _
theorem ltS_trans {x y z : Str} (h1 : ltS x y) (h2 : ltS y z) : ltS x z := List.lt_trans h1 h2
theorem leS_ltS {x y : Str} (h : leS x y = true) (n : x ≠ y) : ltS x y := by
  rcases List.le_iff_lt_or_eq.mp (of_decide_eq_true h) with z | z
  · exact z
  · exact absurd (PySem.W.str_of_cps z) n
/-- a list of texts, sorted -/
def srtS (xs : List Str) : List Str := xs.mergeSort leS
theorem srtS_perm (xs : List Str) : (srtS xs).Perm xs := List.mergeSort_perm _ _
theorem srtS_le (xs : List Str) : (srtS xs).Pairwise (fun x y => leS x y = true) := List.pairwise_mergeSort leS_trans leS_total xs
theorem srtS_lt {xs : List Str} (h : xs.Nodup) : (srtS xs).Pairwise ltS := by
  have nd : (srtS xs).Nodup := (srtS_perm xs).nodup_iff.mpr h
  have a := srtS_le xs
  rw [List.Nodup] at nd
  exact (a.and nd).imp fun ⟨h1, h2⟩ => leS_ltS h1 h2
/-- two lists that rise strictly and have the same items are the same -/
theorem rise_eq {α : Type} {lt : α → α → Prop} (ir : ∀ x, ¬ lt x x) (tr : ∀ {x y z}, lt x y → lt y z → lt x z) : ∀ {xs ys : List α}, xs.Pairwise lt → ys.Pairwise lt → (∀ a, a ∈ xs ↔ a ∈ ys) → xs = ys
  | [], [], _, _, _ => rfl
  | [], y :: ys, _, _, h => absurd ((h y).mpr List.mem_cons_self) (by simp)
  | x :: xs, [], _, _, h => absurd ((h x).mp List.mem_cons_self) (by simp)
  | x :: xs, y :: ys, h1, h2, h => by
    rw [List.pairwise_cons] at h1 h2
    have e : x = y := by
      rcases List.mem_cons.mp ((h x).mp List.mem_cons_self) with e | m
      · exact e
      · rcases List.mem_cons.mp ((h y).mpr List.mem_cons_self) with e | m2
        · exact e.symm
        · exact absurd (tr (h1.1 y m2) (h2.1 x m)) (ir x)
    subst e
    rw [rise_eq ir tr h1.2 h2.2 fun a => ?_]
    constructor
    · intro m
      rcases List.mem_cons.mp ((h a).mp (List.mem_cons_of_mem _ m)) with e | m2
      · subst e; exact absurd (h1.1 a m) (ir a)
      · exact m2
    · intro m
      rcases List.mem_cons.mp ((h a).mpr (List.mem_cons_of_mem _ m)) with e | m2
      · subst e; exact absurd (h2.1 a m) (ir a)
      · exact m2
theorem srt_uniq {xs ys : List Str} (p : ys.Perm xs) (s : ys.Pairwise (fun x y => leS x y = true)) : ys = srtS xs :=
  (p.trans (srtS_perm xs).symm).eq_of_pairwise (fun _ _ _ _ => leS_anti) s (srtS_le xs)
theorem sorted_le : ∀ {xs : List Str}, sortedS xs = true → xs.Pairwise (fun x y => leS x y = true) := by
  have lt_le : ∀ {x y : Str}, (!ltCps y.cps.toList x.cps.toList) = true → leS x y = true := fun {x y} h => by
    rw [Bool.not_eq_true'] at h
    refine decide_eq_true (List.not_lt.mp fun z => ?_)
    have : ltCps y.cps.toList x.cps.toList = true := by rw [ltCps_eq]; exact decide_eq_true z
    rw [h] at this
    cases this
  have go : ∀ (xs : List Str) (p : Str), risingS p xs = true → (∀ x ∈ xs, leS p x = true) ∧ xs.Pairwise (fun x y => leS x y = true) := by
    intro xs
    induction xs with
    | nil => intro p _; exact ⟨by simp, .nil⟩
    | cons x r ih =>
      intro p h
      rw [risingS, Bool.and_eq_true] at h
      obtain ⟨a, b⟩ := ih x h.2
      have px := lt_le h.1
      refine ⟨fun y hy => ?_, List.pairwise_cons.mpr ⟨a, b⟩⟩
      rcases List.mem_cons.mp hy with rfl | hy
      · exact px
      · exact leS_trans _ _ _ px (a y hy)
  intro xs h
  cases xs with
  | nil => exact .nil
  | cons x r => exact List.pairwise_cons.mpr (go r x h)
theorem sorted_is {xs ys : List Str} (p : ys.Perm xs) (s : sortedS ys = true) : ys = srtS xs := srt_uniq p (sorted_le s)
/-! ### pairs of texts -/
abbrev Pr := Str × Str
def pD (p : Pr) : PyData := .tuple [.str p.1, .str p.2]
def ltP2 (p q : Pr) : Prop := ltS p.1 q.1 ∨ (p.1 = q.1 ∧ ltS p.2 q.2)
theorem ltP2_irrefl (p : Pr) : ¬ ltP2 p p := by
  rintro (h | ⟨_, h⟩)
  · exact ltS_irrefl _ h
  · exact ltS_irrefl _ h
theorem ltP2_trans {p q r : Pr} (h1 : ltP2 p q) (h2 : ltP2 q r) : ltP2 p r := by
  rcases h1 with h1 | ⟨e1, h1⟩
  · rcases h2 with h2 | ⟨e2, h2⟩
    · exact .inl (ltS_trans h1 h2)
    · exact .inl (e2 ▸ h1)
  · rcases h2 with h2 | ⟨e2, h2⟩
    · exact .inl (e1 ▸ h2)
    · exact .inr ⟨e1.trans e2, ltS_trans h1 h2⟩
def leP (p q : Pr) : Bool := !PySem.W.dataLt (pD q) (pD p)
theorem lt_pD (p q : Pr) : PySem.W.dataLt (pD p) (pD q) = true ↔ ltP2 p q := by
  unfold pD
  rw [PySem.W.dataLt_pair rfl rfl]
  have e1 : PyData.eqv (.str p.1) (.str q.1) = decide (p.1 = q.1) := by rw [PyData.eqv]; rfl
  have e2 : PyData.eqv (.str p.2) (.str q.2) = decide (p.2 = q.2) := by rw [PyData.eqv]; rfl
  rw [e1, e2, PySem.W.dataLt_str, PySem.W.dataLt_str]
  unfold ltP2 ltS
  by_cases h1 : p.1 = q.1
  · rw [if_pos (decide_eq_true h1)]
    by_cases h2 : p.2 = q.2
    · rw [if_pos (decide_eq_true h2)]
      constructor
      · intro z; cases z
      · rintro (z | ⟨_, z⟩)
        · rw [h1] at z; exact absurd z (List.lt_irrefl _)
        · rw [h2] at z; exact absurd z (List.lt_irrefl _)
    · rw [if_neg (by simpa using h2), decide_eq_true_eq]
      constructor
      · exact fun z => .inr ⟨h1, z⟩
      · rintro (z | ⟨_, z⟩)
        · rw [h1] at z; exact absurd z (List.lt_irrefl _)
        · exact z
  · rw [if_neg (by simpa using h1), decide_eq_true_eq]
    constructor
    · exact fun z => .inl z
    · rintro (z | ⟨e, _⟩)
      · exact z
      · exact absurd e h1
theorem leP_iff {p q : Pr} : leP p q = true ↔ ¬ ltP2 q p := by
  unfold leP
  rw [Bool.not_eq_true', Bool.eq_false_iff, Ne, lt_pD]
theorem ltP2_tri (p q : Pr) : ltP2 p q ∨ p = q ∨ ltP2 q p := by
  have t : ∀ x y : Str, ltS x y ∨ x = y ∨ ltS y x := fun x y => by
    by_cases e : x = y
    · exact .inr (.inl e)
    · have := leS_total x y
      rw [Bool.or_eq_true] at this
      rcases this with h | h
      · exact .inl (leS_ltS h e)
      · exact .inr (.inr (leS_ltS h fun z => e z.symm))
  rcases t p.1 q.1 with h | h | h
  · exact .inl (.inl h)
  · rcases t p.2 q.2 with k | k | k
    · exact .inl (.inr ⟨h, k⟩)
    · exact .inr (.inl (Prod.ext h k))
    · exact .inr (.inr (.inr ⟨h.symm, k⟩))
  · exact .inr (.inr (.inl h))
theorem leP_total (p q : Pr) : (leP p q || leP q p) = true := by
  rw [Bool.or_eq_true, leP_iff, leP_iff]
  by_cases h : ltP2 q p
  · exact .inr fun z => ltP2_irrefl p (ltP2_trans z h)
  · exact .inl h
theorem leP_trans (p q r : Pr) (h1 : leP p q = true) (h2 : leP q r = true) : leP p r = true := by
  rw [leP_iff] at h1 h2 ⊢
  intro z
  rcases ltP2_tri p q with a | a | a
  · exact h2 (ltP2_trans z a)
  · subst a; exact h2 z
  · exact h1 a
/-- a list of pairs, sorted -/
def srtP (ps : List Pr) : List Pr := ps.mergeSort leP
theorem srtP_perm (ps : List Pr) : (srtP ps).Perm ps := List.mergeSort_perm _ _
theorem srtP_lt {ps : List Pr} (h : ps.Nodup) : (srtP ps).Pairwise ltP2 := by
  have nd : (srtP ps).Nodup := (srtP_perm ps).nodup_iff.mpr h
  have a : (srtP ps).Pairwise (fun x y => leP x y = true) := List.pairwise_mergeSort leP_trans leP_total ps
  rw [List.Nodup] at nd
  refine (a.and nd).imp fun {p q} ⟨h1, h2⟩ => ?_
  rcases ltP2_tri p q with z | z | z
  · exact z
  · exact absurd z h2
  · exact absurd z (leP_iff.mp h1)
theorem srtP_map (ps : List Pr) : (ps.map pD).mergeSort (PySem.W.dataLe false id) = (srtP ps).map pD :=
  (List.map_mergeSort (f := pD) (r := leP) (s := PySem.W.dataLe false id) fun _ _ _ _ => rfl).symm
theorem srtP_is {ps qs : List Pr} (h1 : qs.Pairwise ltP2) (h2 : ps.Nodup) (h : ∀ a, a ∈ qs ↔ a ∈ ps) : srtP ps = qs :=
  rise_eq ltP2_irrefl ltP2_trans (srtP_lt h2) h1 fun a => ((srtP_perm ps).mem_iff).trans (h a).symm
/-! ### sorted of data -/
def rSortDt : List V → Hp → VK → Prop := fun vs H Q => ∃ (a : Addr) (xs : List V) (ds : List PyData), vs = [.ref a] ∧ H a = some (.lst xs) ∧ DtAll H xs ds ∧ PySem.W.AllAlike ds ∧ PySem.W.Sortable ds ∧ (∀ d ∈ ds, d.depth ≤ 5) ∧
  ∀ ys p, H p = none → DtAll H ys (ds.mergeSort (PySem.W.dataLe false id)) → Q (.ref p) (upd H p (.lst ys))
theorem dtAll_zip {H : Hp} : ∀ {xs : List V} {ds : List PyData}, DtAll H xs ds → (∀ b ∈ xs.zip ds, Dt H b.1 b.2) ∧ (xs.zip ds).map (·.2) = ds ∧ (xs.zip ds).map (·.1) = xs
  | _, _, .nil => ⟨by simp, rfl, rfl⟩
  | _, _, .cons a b => by
    obtain ⟨h1, h2, h3⟩ := dtAll_zip b
    refine ⟨fun x hx => ?_, by rw [List.zip_cons_cons, List.map_cons, h2], by rw [List.zip_cons_cons, List.map_cons, h3]⟩
    rw [List.zip_cons_cons] at hx
    rcases List.mem_cons.mp hx with rfl | hx
    · exact a
    · exact h1 x hx
theorem dtAll_of {H : Hp} : ∀ {bs : List (V × PyData)}, (∀ b ∈ bs, Dt H b.1 b.2) → DtAll H (bs.map (·.1)) (bs.map (·.2))
  | [], _ => .nil
  | b :: r, h => .cons (h b List.mem_cons_self) (dtAll_of fun x hx => h x (List.mem_cons_of_mem _ hx))
theorem each_vals {bs : List (V × PyData)} : ∀ {out : List Value}, PySem.W.EachIs (fun v (b : V × PyData) => RelV b.1 v) out bs → Vals (bs.map (·.1)) out
  | _, .nil => .nil
  | _, .cons h t => .cons h (each_vals t)
section
variable {X : Cx}
theorem call_sortDt (hu : X.A.units + 64 < cLine) : CallR X (.builtin "sorted") rSortDt := by
  intro pins s σ H vs us Q I r h
  obtain ⟨a, xs, ds, rfl, ha, hx, al, so, dp, q⟩ := h
  obtain ⟨its, rv, hl, hz⟩ := I.list (.inl (.inl ha))
  obtain ⟨u, rfl, ru⟩ := vals1 r
  obtain rfl : u = Value.ref a := ru
  obtain ⟨z1, z2, z3⟩ := dtAll_zip hx
  have each : ∀ {xs : List V} {ds : List PyData} {us : List Value}, DtAll H xs ds → Vals xs us → PySem.W.EachIs (fun v (b : V × PyData) => RelV b.1 v) us (xs.zip ds) ∧ PySem.W.EachIs (fun v (b : V × PyData) => ∃ as, Reads s.heap v b.2 as) us (xs.zip ds) := by
    intro xs ds us h
    induction xs generalizing ds us with
    | nil => intro r; cases h; cases r; exact ⟨.nil, .nil⟩
    | cons x xs ih =>
      intro r
      cases h with
      | cons h1 h2 =>
        cases r with
        | cons r1 r2 =>
          obtain ⟨e1, e2⟩ := ih h2 r2
          exact ⟨.cons r1 e1, .cons (Dt.shown I h1 r1).1 e2⟩
  obtain ⟨e1, e2⟩ := each hx rv
  refine PySem.W.sorted_data (R := fun v (b : V × PyData) => RelV b.1 v) (enc := fun b => b.2) hl.isList e1 e2 (by rw [z2]; exact al) (by rw [z2]; exact so) ?_ (fun b hb => ?_) fun out lo eo => ?_
  · have l1 := congrArg List.length z3
    rw [List.length_map] at l1
    rw [l1]
    exact hz
  · have m : b.2 ∈ ds := by rw [← z2]; exact List.mem_map_of_mem hb
    have := dp _ m
    omega
  · have perm := List.mergeSort_perm (xs.zip ds) (PySem.W.dataLe false fun b => b.2)
    have dt : DtAll H (((xs.zip ds).mergeSort (PySem.W.dataLe false fun b => b.2)).map (·.1)) (((xs.zip ds).mergeSort (PySem.W.dataLe false fun b => b.2)).map (·.2)) := dtAll_of fun b hb => z1 b (perm.mem_iff.mp hb)
    have em : ((xs.zip ds).mergeSort (PySem.W.dataLe false fun b => b.2)).map (·.2) = ds.mergeSort (PySem.W.dataLe false id) := by
      have := List.map_mergeSort (l := xs.zip ds) (f := fun b : V × PyData => b.2) (r := PySem.W.dataLe false fun b => b.2) (s := PySem.W.dataLe false id) fun _ _ _ _ => rfl
      rw [this, z2]
    rw [em] at dt
    obtain ⟨ep, he'⟩ := PyProof.Rows.sortedAll_at s.heap its out.toArray
    have vo := each_vals eo
    have lz : (((xs.zip ds).mergeSort (PySem.W.dataLe false fun b => b.2)).map (·.1)).length ≤ sizeLine := by
      have l1 := congrArg List.length z3
      rw [List.length_map] at l1
      rw [List.length_map, List.length_mergeSort, l1]
      exact hz
    exact ⟨.ref _, upd H (s.heap.objs.size + 1) (.lst _), I.laid (t' := s.toks) (fun _ _ => PyProof.Rows.sortedAll_old) (Nat.le_succ _) ⟨lz, out, ep, vo, he'⟩, rfl, q _ _ (I.hok.fresh (Nat.le_succ _)) dt⟩
end
end Cr
/-! except with two classes; a caught error handed to a def -/
/-! == and in, of data of any kind -/
namespace Cr
open PySem PySem.Spec PyProof.Rows L2 Evl
section
variable {X : Cx}
def rEqDt : R2 := fun x y H Q => ∃ d e, Dt H x d ∧ Dt H y e ∧ SeqAt.shaped d = true ∧ SeqAt.shaped e = true ∧ Q (.bl (PyData.eqv d e)) H
theorem op_eqDt (hu : X.A.units + 64 < cLine) : OpR X (compareOp .Eq) rEqDt := by
  intro pins s σ H x y v u Q I rx ry h
  obtain ⟨d, e, hd, he, sd, se, q⟩ := h
  obtain ⟨as, r1⟩ := (Dt.shown I hd rx).1
  obtain ⟨bs, r2⟩ := (Dt.shown I he ry).1
  exact SeqAt.compareEq_shaped r1 r2 sd se hu ⟨.bl _, H, I, rfl, q⟩
end
end Cr
/-! Cr: == and != of an own class with its own ==, from both sides -/
/-! Cr: the comparison itself, own object at the left or at the right -/
/-! Cr: == and != as expressions, for a class with its own == -/
namespace Cr
open PySem PySem.Spec PyProof.Rows L2 Evl
/-- data at the other side -/
def OthB (H : Hp) : V → Prop
  | .non => True
  | .int _ => True
  | .str _ => True
  | .ref p => (∃ xs, H p = some (.lst xs)) ∨ (∃ xs, H p = some (.tup xs)) ∨ ∃ kvs, H p = some (.dK kvs)
  | _ => False
theorem OthB.ex {H H' : Hp} {y : V} (h : OthB H y) (e : Ex H H') : OthB H' y := by
  cases y with
  | ref p =>
    rcases h with ⟨xs, z⟩ | ⟨xs, z⟩ | ⟨xs, z⟩
    · exact .inl ⟨xs, e _ _ z⟩
    · exact .inr (.inl ⟨xs, e _ _ z⟩)
    · exact .inr (.inr ⟨xs, e _ _ z⟩)
  | _ => exact h
end Cr
/-! == and in, of data of any kind, dicts among them -/
/-! C(..) in a try: what __init__ raises wished for at the caller's slots -/
/-! expressions by the data that they give -/
namespace Cr
open PySem PySem.Spec PyProof.Rows L2 Evl
def EvD (te : TE) (σ : L2.St) (H : Hp) (d : PyData) : Prop := ∀ H1, Ex H H1 → ∀ Q : VK, (∀ v H2, Ex H1 H2 → Dt H2 v d → Q v H2) → te σ H1 Q
def EvDA (ta : TA) (σ : L2.St) (H : Hp) (ds : List PyData) : Prop := ∀ H1, Ex H H1 → ∀ Q : List V → Hp → Prop, (∀ vs H2, Ex H1 H2 → DtAll H2 vs ds → Q vs H2) → ta σ H1 Q
theorem dtAll_len {H : Hp} : ∀ {vs : List V} {ds : List PyData}, DtAll H vs ds → vs.length = ds.length
  | _, _, .nil => rfl
  | _, _, .cons _ b => by rw [List.length_cons, List.length_cons, dtAll_len b]
def rNeDt : R2 := fun x y H Q => ∃ d e, Dt H x d ∧ Dt H y e ∧ SeqAt.shaped d = true ∧ SeqAt.shaped e = true ∧ Q (.bl (!PyData.eqv d e)) H
theorem op_neDt {X : Cx} (hu : X.A.units + 64 < cLine) : OpR X (compareOp .NotEq) rNeDt := by
  intro pins s σ H x y v u Q I rx ry h
  obtain ⟨d, e, hd, he, sd, se, q⟩ := h
  obtain ⟨as, r1⟩ := (Dt.shown I hd rx).1
  obtain ⟨bs, r2⟩ := (Dt.shown I he ry).1
  exact SeqAt.compareNe_shaped r1 r2 sd se hu ⟨.bl _, H, I, rfl, q⟩
section
variable {te : TE} {ta : TA} {σ : L2.St} {H : Hp} {v : V} {d : PyData} {ds : List PyData}
theorem evd_of (h : Ev te σ H v) (hd : Dt H v d) : EvD te σ H d := fun H1 e Q q => h H1 e _ fun H2 e2 => q v H2 e2 (Dt.ex (e.trans e2) hd)
theorem evda_nil : EvDA tNil σ H [] := fun H1 e Q q => q [] H1 (Ex.refl H1) .nil
theorem evda_cons (h1 : EvD te σ H d) (h2 : EvDA ta σ H ds) : EvDA (tCons te ta) σ H (d :: ds) := fun H1 e Q q =>
  h1 H1 e _ fun v H2 e2 hv => h2 H2 (e.trans e2) _ fun vs H3 e3 hvs => q (v :: vs) H3 (e2.trans e3) (.cons (Dt.ex e3 hv) hvs)
theorem evd_lst (h : EvDA ta σ H ds) (hl : ds.length ≤ 1000) : EvD (tLst ta) σ H (.list ds) := fun H1 e Q q =>
  h H1 e _ fun vs H2 e2 hvs => ⟨Nat.le_trans (Nat.le_of_eq (dtAll_len hvs)) (Nat.le_trans hl (by decide)), fun l hl' => q (.ref l) _ (e2.trans (Ex.new hl')) (.lst upd_same (DtAll.ex (Ex.new hl') hvs))⟩
theorem evd_tup (h : EvDA ta σ H ds) (hl : ds.length ≤ 1000) : EvD (tTup ta) σ H (.tuple ds) := fun H1 e Q q =>
  h H1 e _ fun vs H2 e2 hvs => ⟨Nat.le_trans (Nat.le_of_eq (dtAll_len hvs)) (Nat.le_trans hl (by decide)), fun l hl' => q (.ref l) _ (e2.trans (Ex.new hl')) (.tup upd_same (DtAll.ex (Ex.new hl') hvs))⟩
theorem dt_lst {H : Hp} {v : V} (h : Dt H v (.list ds)) : ∃ a xs, v = .ref a ∧ H a = some (.lst xs) ∧ DtAll H xs ds := by
  cases h with
  | lst h1 h2 => exact ⟨_, _, rfl, h1, h2⟩
theorem dtAll_app {H : Hp} : ∀ {xs ys : List V} {ds es : List PyData}, DtAll H xs ds → DtAll H ys es → DtAll H (xs ++ ys) (ds ++ es)
  | _, _, _, _, .nil, h => h
  | _, _, _, _, .cons a b, h => .cons a (dtAll_app b h)
end
end Cr
/-! check_name; graphs of needs: what they look like -/
namespace Cr
open PySem PySem.Spec PyProof.Rows L2 Evl
abbrev sCheckN : Stmt := topS 8
theorem scCheckN : FnScope ["value"] ["value"] (defScope sCheckN) := ⟨rfl, rfl, rfl, by decide +kernel, rfl, by decide +kernel, by decide +kernel⟩
def spCheckN (CN : Addr) (n : Nat) : Sp := fun vs H Q E => ∃ v d, vs = [v] ∧ Dt H v d ∧ sm d = true ∧ cpyTo n d ∧ (isName d = true → ∀ H', Ex H H' → Q .non H') ∧ (isName d = false → ∀ dx H', Rsd1 H H' dx "value" d → E (.ref CN) (some dx) H')
/-! ### the graph -/
structure Row where
  s : Str
  a : Addr
  ts : List Str
def kvR (r : Row) : Key × V := (.inr r.s, .ref r.a)
/-- rows in order: the names are of U -/
structure GOk (U : List Str) (g : List Row) : Prop where
  un : ∀ x ∈ U, isNameS x = true
  uf : U.length ≤ 62
  keys : (g.map (·.s)).Nodup
  ads : (g.map (·.a)).Nodup
  nm : ∀ r ∈ g, r.s ∈ U
  ne : ∀ r ∈ g, r.ts ≠ []
  up : ∀ r ∈ g, r.ts.Pairwise ltS
  tn : ∀ r ∈ g, ∀ t ∈ r.ts, t ∈ U
structure NdA where
  dx : Addr
  dd : Addr
structure NdAt (C : Addr) (H : Hp) (x : Addr) (A : NdA) (U : List Str) (g : List Row) : Prop where
  ob : H x = some (.ins C A.dx [("needed", .ref A.dd)])
  di : H A.dd = some (.dK (g.map kvR))
  ls : ∀ r ∈ g, H r.a = some (.lst (r.ts.map V.str))
  ok : GOk U g
def rowOf (g : List Row) (s : Str) : Option Row := g.find? fun r => decide (r.s = s)
def tgS (g : List Row) (s : Str) : List Str := match rowOf g s with | some r => r.ts | none => []
def tgD (g : List Row) : PyData → List Str
  | .str s => tgS g s
  | _ => []
/-- is (d, e) a need -/
def isNd (g : List Row) (d : PyData) : PyData → Bool
  | .str t => decide (t ∈ tgD g d)
  | _ => false
theorem rise_nodup {xs : List Str} (h : xs.Pairwise ltS) : xs.Nodup := by
  rw [List.Nodup]
  exact h.imp fun {a b} z (e : a = b) => ltS_irrefl a (by rw [← e] at z; exact z)
section
variable {C : Addr} {H H' : Hp} {x : Addr} {A : NdA} {U : List Str} {g : List Row}
theorem NdAt.ex (h : NdAt C H x A U g) (e : Ex H H') : NdAt C H' x A U g := ⟨e _ _ h.ob, e _ _ h.di, fun r hr => e _ _ (h.ls r hr), h.ok⟩
theorem NdAt.but {l : List Addr} (h : NdAt C H x A U g) (e : But l H H') (h1 : x ∉ l) (h2 : A.dd ∉ l) (h3 : ∀ r ∈ g, r.a ∉ l) : NdAt C H' x A U g := ⟨e _ _ h1 h.ob, e _ _ h2 h.di, fun r hr => e _ _ (h3 r hr) (h.ls r hr), h.ok⟩
theorem rowOf_mem {s : Str} {r : Row} (h : rowOf g s = some r) : r ∈ g ∧ r.s = s := by
  unfold rowOf at h
  have z := List.find?_some h
  exact ⟨List.mem_of_find?_eq_some h, of_decide_eq_true z⟩
theorem rowOf_in {r : Row} (hk : (g.map (·.s)).Nodup) (h : r ∈ g) : rowOf g r.s = some r := by
  induction g with
  | nil => exact nomatch h
  | cons y g ih =>
    rw [List.map_cons, List.nodup_cons] at hk
    unfold rowOf
    rw [List.find?_cons]
    rcases List.mem_cons.mp h with rfl | h
    · rw [decide_eq_true rfl]
    · have n : ¬ y.s = r.s := fun e => hk.1 (by rw [e]; exact List.mem_map_of_mem h)
      rw [decide_eq_false n]
      exact ih hk.2 h
theorem val_row (g : List Row) (s : Str) : valV (g.map kvR) (Sum.inr s) = (rowOf g s).map fun r => V.ref r.a := by
  unfold valV rowOf
  rw [List.find?_map, Option.map_map]
  have e : (fun kv : Key × V => decide (kv.1 = Sum.inr s)) ∘ kvR = fun r : Row => decide (r.s = s) := by
    funext r
    show decide ((Sum.inr r.s : Key) = Sum.inr s) = decide (r.s = s)
    exact decide_eq_decide.mpr ⟨fun h => Sum.inr.inj h, fun h => by rw [h]⟩
  rw [e]
  rfl
theorem NdAt.tg (h : NdAt C H x A U g) {s : Str} {r : Row} (hr : rowOf g s = some r) : H r.a = some (.lst ((tgS g s).map V.str)) := by
  have e : tgS g s = r.ts := by unfold tgS; rw [hr]
  rw [e]
  exact h.ls r (rowOf_mem hr).1
theorem GOk.tgU (h : GOk U g) {s t : Str} (m : t ∈ tgS g s) : s ∈ U ∧ t ∈ U := by
  unfold tgS at m
  cases e : rowOf g s with
  | none => rw [e] at m; exact nomatch m
  | some r =>
    rw [e] at m
    obtain ⟨h1, h2⟩ := rowOf_mem e
    exact ⟨h2 ▸ h.nm r h1, h.tn r h1 t m⟩
theorem GOk.up' (h : GOk U g) (s : Str) : (tgS g s).Pairwise ltS := by
  unfold tgS
  cases e : rowOf g s with
  | none => exact .nil
  | some r => exact h.up r (rowOf_mem e).1
theorem sub_len {xs ys : List Str} (nd : xs.Nodup) (h : ∀ x ∈ xs, x ∈ ys) : xs.length ≤ ys.length := pigeon nd h
theorem GOk.fewT (h : GOk U g) (s : Str) : (tgS g s).length ≤ 62 := Nat.le_trans (sub_len (rise_nodup (h.up' s)) fun t m => (h.tgU m).2) h.uf
theorem GOk.fewK (h : GOk U g) : g.length ≤ 62 := by
  have := sub_len h.keys fun x hx => by
    obtain ⟨r, hr, rfl⟩ := List.mem_map.mp hx
    exact h.nm r hr
  rw [List.length_map] at this
  exact Nat.le_trans this h.uf
theorem GOk.name (h : GOk U g) {s t : Str} (m : t ∈ tgS g s) : isNameS s = true ∧ isNameS t = true := ⟨h.un _ (h.tgU m).1, h.un _ (h.tgU m).2⟩
theorem tg_other (h : GOk U g) {d : PyData} (hd : isName d = false) : tgD g d = [] := by
  cases d with
  | str s =>
    show tgS g s = []
    unfold tgS
    cases e : rowOf g s with
    | none => rfl
    | some r =>
      obtain ⟨h1, h2⟩ := rowOf_mem e
      have z := h.un _ (h.nm r h1)
      rw [h2] at z
      have hd' : isNameS s = false := hd
      rw [hd'] at z
      cases z
  | _ => rfl
theorem NdAt.xd (h : NdAt C H x A U g) : x ≠ A.dd := fun e => by have z := h.ob; rw [e, h.di] at z; cases z
theorem NdAt.da (h : NdAt C H x A U g) {r : Row} (hr : r ∈ g) : A.dd ≠ r.a := fun e => by have z := h.di; rw [e, h.ls r hr] at z; cases z
/-- a pot is none of its places -/
theorem NdAt.drew {p : Addr} (h : NdAt C H x A U g) (d : Drew p H H') (pot : Pot H p) : NdAt C H' x A U g := by
  obtain ⟨i, j, hp, _⟩ := pot
  refine ⟨d.at (fun e => ?_) h.ob, d.at (fun e => ?_) h.di, fun r hr => d.at (fun e => ?_) (h.ls r hr), h.ok⟩
  · have z := h.ob; rw [e, hp] at z; cases z
  · have z := h.di; rw [e, hp] at z; cases z
  · have z := h.ls r hr
    rw [e, hp] at z
    cases ht : r.ts with
    | nil => exact h.ok.ne r hr ht
    | cons t ts => rw [ht] at z; cases z
end
/-! ### a new row for a source -/
def putG (g : List Row) (n : Row) : List Row := if (rowOf g n.s).isSome = true then g.map (fun y => if y.s = n.s then n else y) else g ++ [n]
theorem putK_row (g : List Row) (n : Row) : putK (g.map kvR) (Sum.inr n.s) (.ref n.a) = (putG g n).map kvR := by
  unfold putK putG
  have e : ((g.map kvR).any fun kv => decide (kv.1 = Sum.inr n.s)) = (rowOf g n.s).isSome := by rw [valV_any, val_row, Option.isSome_map]
  rw [e]
  by_cases h : (rowOf g n.s).isSome = true
  · rw [if_pos h, if_pos h, List.map_map, List.map_map]
    refine List.map_congr_left fun y _ => ?_
    show (if (kvR y).1 = Sum.inr n.s then ((kvR y).1, V.ref n.a) else kvR y) = kvR (if y.s = n.s then n else y)
    by_cases hy : y.s = n.s
    · rw [if_pos hy, if_pos (show (kvR y).1 = Sum.inr n.s by show Sum.inr y.s = Sum.inr n.s; rw [hy])]
      show (Sum.inr y.s, V.ref n.a) = (Sum.inr n.s, V.ref n.a)
      rw [hy]
    · rw [if_neg hy, if_neg (show ¬ (kvR y).1 = Sum.inr n.s from fun z => hy (Sum.inr.inj z))]
  · rw [if_neg h, if_neg h, List.map_append]
    rfl
theorem rowOf_put (g : List Row) (n : Row) (s : Str) : rowOf (putG g n) s = if n.s = s then some n else rowOf g s := by
  unfold putG
  by_cases h : (rowOf g n.s).isSome = true
  · rw [if_pos h]
    have go : ∀ g : List Row, (rowOf g n.s).isSome = true ∨ n.s ≠ s → rowOf (g.map fun y => if y.s = n.s then n else y) s = if n.s = s then (if (rowOf g n.s).isSome = true then some n else none) else rowOf g s := by
      intro g
      induction g with
      | nil => intro hh; rcases hh with hh | hh; · cases hh
               · rw [if_neg hh]; rfl
      | cons y g ih =>
        intro hh
        unfold rowOf at ih hh ⊢
        rw [List.map_cons, List.find?_cons, List.find?_cons, List.find?_cons]
        by_cases hy : y.s = n.s
        · rw [if_pos hy, decide_eq_true hy]
          by_cases hn : n.s = s
          · rw [decide_eq_true hn, if_pos hn]; rfl
          · rw [decide_eq_false hn, if_neg hn]
            have ne : ¬ y.s = s := fun z => hn (hy.symm.trans z)
            rw [decide_eq_false ne]
            have z := ih (.inr hn)
            rw [if_neg hn] at z
            exact z
        · rw [if_neg hy, decide_eq_false hy]
          rw [List.find?_cons, decide_eq_false hy] at hh
          by_cases ys : y.s = s
          · have hn : ¬ n.s = s := fun z => hy (ys.trans z.symm)
            rw [decide_eq_true ys, if_neg hn]
          · rw [decide_eq_false ys]
            exact ih hh
    rw [go g (.inl h), if_pos h]
  · rw [if_neg h]
    unfold rowOf
    rw [List.find?_append, List.find?_cons, List.find?_nil]
    have h' : g.find? (fun r => decide (r.s = n.s)) = none := by
      cases e : rowOf g n.s with
      | none => exact e
      | some r => rw [e] at h; exact absurd rfl h
    by_cases hn : n.s = s
    · rw [decide_eq_true hn, if_pos hn, ← hn, h']; rfl
    · rw [decide_eq_false hn, if_neg hn]
      exact Option.or_none
theorem tgS_put (g : List Row) (n : Row) (s : Str) : tgS (putG g n) s = if n.s = s then n.ts else tgS g s := by
  unfold tgS
  rw [rowOf_put]
  by_cases h : n.s = s
  · rw [if_pos h, if_pos h]
  · rw [if_neg h, if_neg h]
theorem mem_put {g : List Row} {n r : Row} (h : r ∈ putG g n) : r = n ∨ r ∈ g := by
  unfold putG at h
  split at h
  · obtain ⟨y, hy, e⟩ := List.mem_map.mp h
    by_cases hs : y.s = n.s
    · rw [if_pos hs] at e; exact .inl e.symm
    · rw [if_neg hs] at e; exact .inr (e ▸ hy)
  · rcases List.mem_append.mp h with h | h
    · exact .inr h
    · exact .inl (List.mem_singleton.mp h)
theorem put_ok {U : List Str} {g : List Row} {n : Row} (h : GOk U g) (hs : n.s ∈ U) (hne : n.ts ≠ []) (hup : n.ts.Pairwise ltS) (htn : ∀ t ∈ n.ts, t ∈ U) (ha : ∀ r ∈ g, r.a ≠ n.a) : GOk U (putG g n) := by
  refine ⟨h.un, h.uf, ?_, ?_, fun r hr => ?_, fun r hr => ?_, fun r hr => ?_, fun r hr => ?_⟩
  · unfold putG
    split
    · rw [List.map_map]
      have e : (fun y : Row => y.s) ∘ (fun y => if y.s = n.s then n else y) = fun y : Row => y.s := by
        funext y
        show (if y.s = n.s then n else y).s = y.s
        by_cases hy : y.s = n.s
        · rw [if_pos hy, hy]
        · rw [if_neg hy]
      rw [e]
      exact h.keys
    · rename_i hn
      rw [List.map_append, List.nodup_append]
      refine ⟨h.keys, List.pairwise_singleton _ _, fun a ha b hb e => ?_⟩
      obtain ⟨r, hr, rfl⟩ := List.mem_map.mp ha
      rw [List.map_cons, List.map_nil, List.mem_singleton] at hb
      have z := rowOf_in h.keys hr
      rw [e, hb] at z
      rw [z] at hn
      exact hn rfl
  · unfold putG
    split
    · rw [List.map_map]
      have go : ∀ g : List Row, (g.map (·.s)).Nodup → (g.map (·.a)).Nodup → (∀ r ∈ g, r.a ≠ n.a) → (g.map ((fun y : Row => y.a) ∘ fun y => if y.s = n.s then n else y)).Nodup := by
        intro g
        induction g with
        | nil => intro _ _ _; exact List.nodup_nil
        | cons y g ih =>
          intro k1 k2 k3
          rw [List.map_cons, List.nodup_cons] at k1 k2 ⊢
          refine ⟨fun m => ?_, ih k1.2 k2.2 fun r hr => k3 r (List.mem_cons_of_mem _ hr)⟩
          obtain ⟨z, hz, e⟩ := List.mem_map.mp m
          have e' : (if z.s = n.s then n else z).a = (if y.s = n.s then n else y).a := e
          by_cases hy : y.s = n.s
          · have hzn : ¬ z.s = n.s := fun q => k1.1 (by rw [hy, ← q]; exact List.mem_map_of_mem hz)
            rw [if_pos hy, if_neg hzn] at e'
            exact k3 z (List.mem_cons_of_mem _ hz) e'
          · rw [if_neg hy] at e'
            by_cases hzn : z.s = n.s
            · rw [if_pos hzn] at e'
              exact k3 y List.mem_cons_self e'.symm
            · rw [if_neg hzn] at e'
              exact k2.1 (by rw [← e']; exact List.mem_map_of_mem hz)
      exact go g h.keys h.ads ha
    · rw [List.map_append, List.nodup_append]
      refine ⟨h.ads, List.pairwise_singleton _ _, fun a hm b hb e => ?_⟩
      obtain ⟨r, hr, rfl⟩ := List.mem_map.mp hm
      rw [List.map_cons, List.map_nil, List.mem_singleton] at hb
      exact ha r hr (e.trans hb)
  · rcases mem_put hr with rfl | hr
    · exact hs
    · exact h.nm r hr
  · rcases mem_put hr with rfl | hr
    · exact hne
    · exact h.ne r hr
  · rcases mem_put hr with rfl | hr
    · exact hup
    · exact h.up r hr
  · rcases mem_put hr with rfl | hr
    · exact htn
    · exact h.tn r hr
section
variable {P : Program} {w : World} {K : PySem.W.Frag} {mg : Str → Option Value} {base : Heap}
theorem ok_checkN {f CN : Addr} {fd : FuncData} {k j n : Nat} (F : Fun K "check_name" "check_name" sCheckN f fd) (hj : j + 1 ≤ k) (M : MkErr P w K mg base j CN "InvalidName" 1 (spInitC CN "value" n)) (h1 : HasO P w K mg base k "is_name" ["value"] (spD isName)) :
    FnOk P w K mg base (L2.CX P w) (k + 1) f fd ["value"] (spCheckN CN n) := by
  obtain ⟨f1, d1, G1, b1, k1, g1⟩ := h1.ex
  obtain ⟨fI, fdI, bb, ps, lp, Ox, FI, bI, iI, tI, gC⟩ := M
  refine F.okX scCheckN (fun vs H Q E h => by obtain ⟨_, _, rfl, _⟩ := h; rfl) (fun cdv A outer s H vs Q E hr h => ?_)
  obtain ⟨v, d, rfl, hd, hs, hc, q, qe⟩ := h
  refine ⟨_, pss_one (ps_if (pt_not (pt_val (pe_call (E := E0) G1 hr (by rfl) g1 k1 b1 .nil pass0 (pa_cons (pv 0) pa_nil)))) (pss_one (ps_raise rfl (takes_of rfl rfl rfl rfl) (pmkG Ox iI tI FI (hr.mono hj) bI .nil pass0 (by rfl) gC (pa_cons (pv 0) pa_nil)))) pss_nil), ?_⟩
  refine s_when (b := !isName d) (et_not (et_B (ev_call (ea_cons (ev_var rfl) ea_nil) (spv_D hd hs)))) (fun hb H1 e1 => ?_) (fun hb H1 e1 => ?_)
  · rw [Bool.not_eq_true'] at hb
    exact mk_cpy ⟨v, rfl, v, d, rfl, Dt.ex e1 hd, hc, fun dx H' r => qe hb dx H' (r.back e1)⟩ (fun k ⟨i, e, r⟩ => ⟨i, e, k _ _ r⟩)
  · rw [Bool.not_eq_false'] at hb
    exact q hb H1 e1
end
end Cr
/-! graphs of needs: the methods that only look -/
namespace Cr
open PySem PySem.Spec PyProof.Rows L2 Evl
abbrev sNTarg : Stmt := inClass (topS 11) 11
abbrev sNIs : Stmt := inClass (topS 11) 6
abbrev sNPairs : Stmt := inClass (topS 11) 10
abbrev nNPairs : List Str := ["self", "source", "target"]
theorem scNTarg : FnScope ["self", "name"] ["self", "name"] (defScope sNTarg) := ⟨rfl, rfl, rfl, by decide +kernel, rfl, by decide +kernel, by decide +kernel⟩
theorem scNIs : FnScope ["self", "source", "target"] ["self", "source", "target"] (defScope sNIs) := ⟨rfl, rfl, rfl, by decide +kernel, rfl, by decide +kernel, by decide +kernel⟩
theorem scNPairs : FnScope nNPairs ["self"] (defScope sNPairs) := ⟨rfl, rfl, rfl, by decide +kernel, rfl, by decide +kernel, by decide +kernel⟩
structure NdC (K : PySem.W.Frag) (mg : Str → Option Value) (C : Addr) : Prop where
  cl : Cls K C
  nN : NoAttr K C "needed"
  at_ : mg "Needs" = some (.ref C)
theorem bSorted : bootBuiltins "sorted" = some (.builtin "sorted") := by decide +kernel
/-! ### sp's -/
def spTargets (C : Addr) : Sp := fun vs H Q _ => ∃ x v d A U g, vs = [.ref x, v] ∧ NdAt C H x A U g ∧ Dt H v d ∧ sm d = true ∧ ∀ l H', H l = none → Ex H H' → H' l = some (.lst ((tgD g d).map V.str)) → Q (.ref l) H'
def spIsNeed (C : Addr) : Sp := fun vs H Q _ => ∃ x v u d e A U g, vs = [.ref x, v, u] ∧ NdAt C H x A U g ∧ Dt H v d ∧ Dt H u e ∧ sm d = true ∧ sm e = true ∧ ∀ H', Ex H H' → Q (.bl (isNd g d e)) H'
/-- the sorted keys -/
def srcs (g : List Row) : List Str := srtS (g.map (·.s))
def prs (g : List Row) : List Pr := (srcs g).flatMap fun s => (tgS g s).map fun t => (s, t)
/-- the sorted pairs, new -/
def spPairs (C : Addr) : Sp := fun vs H Q _ => ∃ x A U g, vs = [.ref x] ∧ NdAt C H x A U g ∧ ∀ l xs H', H l = none → Ex H H' → H' l = some (.lst xs) → DtAll (wo l H') xs ((prs g).map pD) → Q (.ref l) H'
/-! ### evaluating methods -/
section
variable {K : PySem.W.Frag} {σ : L2.St} {H : Hp} {ta te tb : TE} {t : TA} {C x dx : Addr} {fs : List (Str × V)} {m : Str} {sp : Sp} {E : XK} {vs xs : List V} {z : V}
theorem el_if {tt : TT} {b : Bool} (h : EvT tt σ H b) (h1 : b = true → EvL ta σ H xs) (h2 : b = false → EvL tb σ H xs) : EvL (tIf tt ta tb) σ H xs := fun H1 e Q q => h H1 e _ fun H2 e2 => by
  cases b with
  | true =>
    show ta σ H2 Q
    exact h1 rfl H2 (e.trans e2) Q fun p H3 zp e3 => q p H3 (fresh_back e2 zp) (e2.trans e3)
  | false =>
    show tb σ H2 Q
    exact h2 rfl H2 (e.trans e2) Q fun p H3 zp e3 => q p H3 (fresh_back e2 zp) (e2.trans e3)
theorem ev_meth (h : Ev ta σ H (.ref x)) (ho : H x = some (.ins C dx fs)) (hl : fs.lookup m = none) (ha : EvA t σ H vs) (hs : SpV sp (.ref x :: (vs ++ [])) H z) : Ev (tMeth C m sp [] E ta t) σ H z := fun H1 e Q q =>
  h H1 e _ fun H2 e2 => ⟨x, dx, fs, rfl, (e.trans e2) _ _ ho, hl, ha H2 (e.trans e2) _ fun H3 e3 => hs H3 ((e.trans e2).trans e3) Q (fun H4 e4 => q H4 ((e2.trans e3).trans e4)) E⟩
theorem el_meth (h : Ev ta σ H (.ref x)) (ho : H x = some (.ins C dx fs)) (hl : fs.lookup m = none) (ha : EvA t σ H vs) (hs : SpL sp (.ref x :: (vs ++ [])) H xs) : EvL (tMeth C m sp [] E ta t) σ H xs := fun H1 e Q q =>
  h H1 e _ fun H2 e2 => ⟨x, dx, fs, rfl, (e.trans e2) _ _ ho, hl, ha H2 (e.trans e2) _ fun H3 e3 => hs H3 ((e.trans e2).trans e3) Q (fun p H4 zp e4 => q p H4 (fresh_back (e2.trans e3) zp) ((e2.trans e3).trans e4)) E⟩
theorem spl_targets {A : NdA} {U : List Str} {g : List Row} {v : V} {d : PyData} (h : NdAt C H x A U g) (hd : Dt H v d) (hs : sm d = true) : SpL (spTargets C) [.ref x, v] H ((tgD g d).map V.str) := fun H1 e Q q E => ⟨x, v, d, A, U, g, rfl, h.ex e, Dt.ex e hd, hs, q⟩
theorem spv_isNeed {A : NdA} {U : List Str} {g : List Row} {v u : V} {d e : PyData} (h : NdAt C H x A U g) (hd : Dt H v d) (he : Dt H u e) (hs : sm d = true) (hs2 : sm e = true) : SpV (spIsNeed C) [.ref x, v, u] H (.bl (isNd g d e)) := fun H1 e1 Q q E => ⟨x, v, u, d, e, A, U, g, rfl, h.ex e1, Dt.ex e1 hd, Dt.ex e1 he, hs, hs2, q⟩
end
abbrev rSrtD : List V → Hp → VK → Prop := fun xs H Q => ∃ (a : Addr) (kvs : List (Key × V)) (ks : List Str), xs = [.ref a] ∧ Rd H a (.dK kvs) ∧ kvs.map (·.1) = ks.map Sum.inr ∧ ks.length < 64 ∧ ∀ ys p, ys.Perm ks → sortedS ys = true → H p = none → Q (.ref p) (upd H p (.lst (ys.map V.str)))
theorem el_srcs {K : PySem.W.Frag} {mg : Str → Option Value} {C x : Addr} {σ : L2.St} {H : Hp} {A : NdA} {U : List Str} {g : List Row} {te : TE} (T : NdC K mg C) (h : NdAt C H x A U g) (hx : Ev te σ H (.ref x)) : EvL (tCB rSrtD (tCons (tFld K te "needed") tNil)) σ H ((srcs g).map V.str) := fun H1 e Q q => by
  refine ev_fld (v := .ref A.dd) hx h.ob T.cl T.nN rfl H1 e _ fun H2 e2 => ⟨A.dd, g.map kvR, g.map (·.s), rfl, .inl ((e.trans e2) _ _ h.di), ?_, ?_, fun ys p hp hs zp => ?_⟩
  · rw [List.map_map, List.map_map]; rfl
  · have := h.ok.fewK
    rw [List.length_map]
    omega
  · rw [sorted_is hp hs]
    exact q p _ (fresh_back e2 zp) (e2.trans (Ex.new zp)) upd_same
theorem mem_srcs {U : List Str} {g : List Row} {s : Str} : s ∈ srcs g ↔ ∃ r ∈ g, r.s = s := by
  unfold srcs
  rw [(srtS_perm _).mem_iff, List.mem_map]
theorem srcs_lt {U : List Str} {g : List Row} (h : GOk U g) : (srcs g).Pairwise ltS := srtS_lt h.keys
theorem srcs_len {U : List Str} {g : List Row} (h : GOk U g) : (srcs g).length ≤ 62 := by
  have := h.fewK
  unfold srcs
  rw [(srtS_perm _).length_eq, List.length_map]
  exact this
theorem srcs_row {U : List Str} {g : List Row} (h : GOk U g) {s : Str} (m : s ∈ srcs g) : ∃ r, rowOf g s = some r := by
  obtain ⟨r, hr, rfl⟩ := (mem_srcs (U := U)).mp m
  exact ⟨r, rowOf_in h.keys hr⟩
theorem sm_name {x : Str} (h : isNameS x = true) : sm (.str x) = true := by
  unfold isNameS at h
  simp only [Bool.and_eq_true, decide_eq_true_eq] at h
  rw [sm]
  exact decide_eq_true (by omega)
section
variable {P : Program} {w : World} {K : PySem.W.Frag} {mg : Str → Option Value} {base : Heap}
theorem ok_targets {f C : Addr} {fd : FuncData} {k : Nat} (F : Fun K "targets" "Needs.targets" sNTarg f fd) (B : Blt mg) (T : NdC K mg C) (h1 : HasO P w K mg base k "is_name" ["value"] (spD isName)) : FnOk P w K mg base CX0 (k + 1) f fd ["self", "name"] (spTargets C) := by
  obtain ⟨f1, d1, G1, b1, k1, g1⟩ := h1.ex
  refine F.ok scNTarg (fun vs H Q E h => by obtain ⟨_, _, _, _, _, _, rfl, _⟩ := h; rfl) (fun cdv A outer s H vs Q E hr h => ?_)
  obtain ⟨x, v, d, A', U, g, rfl, nd, hd, hs, q⟩ := h
  have hu := hu_of hr
  refine ⟨_, pss_one (ps_ret (pe_ifExp (pt_val (pe_call (E := E0) G1 hr (by rfl) g1 k1 b1 .nil pass0 (pa_cons (pv 1) pa_nil))) (pe_callTy call_list_of (by rfl) B.list bList (pa_cons (pe_dget2 hu (pe_fld (pv 0) rfl) (pv 1) (pe_tup pa_nil) ⟨rfl, rfl, rfl, rfl⟩) pa_nil)) (pe_lst pa_nil))), ?_⟩
  refine s_retL (el_if (b := isName d) (et_B (ev_call (ea_cons (ev_var rfl) ea_nil) (spv_D hd hs))) (fun hn => fun H1 e Q' q' => ?_) (fun hn => ?_)) q
  · cases d with
    | str s0 =>
      cases hd with
      | str =>
      refine ⟨.ref x, rfl, x, C, A'.dx, _, .ref A'.dd, rfl, e _ _ nd.ob, T.cl, T.nN, rfl, A'.dd, rfl, .inl ⟨_, .inl (e _ _ nd.di)⟩, .str s0, rfl, by show 0 ≤ sizeLine; decide, fun t zt => ?_⟩
      have e1 : Ex H (upd H1 t (.tup [])) := e.trans (Ex.new zt)
      refine ⟨_, DGet.k (k := Sum.inr s0) (e1 _ _ nd.di), ?_⟩
      rw [val_row]
      cases hr : rowOf g s0 with
      | none =>
        refine ⟨t, [], rfl, .inr (st_of upd_same), fun l zl => q' l _ (fresh_back (Ex.new zt) zl) ((Ex.new zt).trans (Ex.new zl)) ?_⟩
        have e0 : tgD g (.str s0) = [] := by show tgS g s0 = []; unfold tgS; rw [hr]
        rw [e0]
        exact upd_same
      | some r => exact ⟨r.a, (tgS g s0).map V.str, rfl, .inl (sq_of (e1 _ _ (nd.tg hr))), fun l zl => q' l _ (fresh_back (Ex.new zt) zl) ((Ex.new zt).trans (Ex.new zl)) upd_same⟩
    | _ => exact nomatch hn
  · rw [tg_other nd.ok hn]
    exact el_lst ea_nil (by decide)
theorem ok_isNeed {f C : Addr} {fd : FuncData} {k : Nat} (F : Fun K "is_need" "Needs.is_need" sNIs f fd) (T : NdC K mg C) (h1 : HasO P w K mg base k "is_name" ["value"] (spD isName)) (h2 : HasM P w K mg base CX0 k C "targets" ["self", "name"] (spTargets C)) : FnOk P w K mg base CX0 (k + 1) f fd ["self", "source", "target"] (spIsNeed C) := by
  obtain ⟨f1, d1, G1, b1, k1, g1⟩ := h1.ex
  obtain ⟨f2, d2, G2, b2, m2⟩ := h2.ex
  refine F.ok scNIs (fun vs H Q E h => by obtain ⟨_, _, _, _, _, _, _, _, rfl, _⟩ := h; rfl) (fun cdv A outer s H vs Q E hr h => ?_)
  obtain ⟨x, v, u, d, e, A', U, g, rfl, nd, hd, he, hs, hs2, q⟩ := h
  refine ⟨_, pss_one (ps_ret (pe_and (pe_call (E := E0) G1 hr (by rfl) g1 k1 b1 .nil pass0 (pa_cons (pv 2) pa_nil)) (pe_one (pe_cmpR op_in_seq (pv 2) (pe_meth (E := E0) (pv 0) T.cl m2 G2 hr b2 .nil pass0 (pa_cons (pv 1) pa_nil)) (by rfl))))), ?_⟩
  refine s_ret (ev_is (ev_andV (b := isNd g d e) (ev_call (ea_cons (ev_var rfl) ea_nil) (spv_D he hs2)) fun hn => ?_) ?_) q
  · cases e with
    | str t =>
      cases he with
      | str =>
      refine ev_is (ev_opL (ev_var rfl) (el_meth (ev_var rfl) nd.ob rfl (ea_cons (ev_var rfl) ea_nil) (spl_targets nd hd hs)) fun p H1 hp _ => rv_isL (sq_of hp) rfl (flat_strs _)) ?_
      show V.bl (inV (.str t) ((tgD g d).map V.str)) = V.bl (decide (t ∈ tgD g d))
      congr 1
      exact (Bool.eq_iff_iff).mpr (inV_mem.trans (decide_eq_true_iff (p := t ∈ tgD g d)).symm)
    | _ => exact nomatch hn
  · congr 1
    cases hn : isName e with
    | true => rfl
    | false =>
      rw [Bool.false_and]
      cases e with
      | str t =>
        show false = decide (t ∈ tgD g d)
        refine (decide_eq_false fun m => ?_).symm
        cases d with
        | str s0 =>
          have z := (nd.ok.name m).2
          have hn' : isNameS t = false := hn
          rw [hn'] at z
          cases z
        | _ => exact nomatch m
      | _ => rfl
end
end Cr
/-! graphs of needs: pairs, len -/
namespace Cr
open PySem PySem.Spec PyProof.Rows L2 Evl
/-! ### the pairs, by math -/
section
variable {U : List Str} {g : List Row}
theorem mem_prs (h : GOk U g) {p : Pr} : p ∈ prs g ↔ p.2 ∈ tgS g p.1 := by
  unfold prs
  rw [List.mem_flatMap]
  constructor
  · rintro ⟨s, hs, hp⟩
    obtain ⟨t, ht, rfl⟩ := List.mem_map.mp hp
    exact ht
  · intro m
    refine ⟨p.1, ?_, List.mem_map.mpr ⟨p.2, m, rfl⟩⟩
    cases e : rowOf g p.1 with
    | none => unfold tgS at m; rw [e] at m; exact nomatch m
    | some r =>
      obtain ⟨h1, h2⟩ := rowOf_mem e
      exact (mem_srcs (U := U)).mpr ⟨r, h1, h2⟩
theorem rise_flat {f : Str → List Str} : ∀ {ss : List Str}, ss.Pairwise ltS → (∀ s ∈ ss, (f s).Pairwise ltS) → (ss.flatMap fun s => (f s).map fun t => (s, t)).Pairwise ltP2
  | [], _, _ => .nil
  | s :: ss, h, hf => by
    rw [List.pairwise_cons] at h
    rw [List.flatMap_cons, List.pairwise_append]
    refine ⟨?_, rise_flat h.2 fun x hx => hf x (List.mem_cons_of_mem _ hx), fun a ha b hb => ?_⟩
    · refine List.Pairwise.map _ (fun a b z => ?_) (hf s List.mem_cons_self)
      exact .inr ⟨rfl, z⟩
    · obtain ⟨t, _, rfl⟩ := List.mem_map.mp ha
      obtain ⟨s2, hs2, hb⟩ := List.mem_flatMap.mp hb
      obtain ⟨t2, _, rfl⟩ := List.mem_map.mp hb
      exact .inl (h.1 s2 hs2)
theorem prs_lt (h : GOk U g) : (prs g).Pairwise ltP2 := rise_flat (srcs_lt h) fun s _ => h.up' s
theorem prs_srt (h : GOk U g) {ps : List Pr} (nd : ps.Nodup) (hm : ∀ p : Pr, p.2 ∈ tgS g p.1 ↔ p ∈ ps) : srtP ps = prs g := srtP_is (prs_lt h) nd fun p => (mem_prs h).trans (hm p)
theorem flat_len {f : Str → List Str} : ∀ {ss : List Str}, (∀ s ∈ ss, (f s).length ≤ 62) → (ss.flatMap fun s => (f s).map fun t => ((s, t) : Pr)).length ≤ 62 * ss.length
  | [], _ => Nat.le_refl _
  | s :: ss, h => by
    have a := flat_len fun x hx => h x (List.mem_cons_of_mem _ hx)
    have b := h s List.mem_cons_self
    rw [List.flatMap_cons, List.length_append, List.length_map, List.length_cons]
    omega
end
theorem pD_dt {H : Hp} {T : Addr} {s t : Str} (h : H T = some (.tup [.str s, .str t])) : Dt H (.ref T) (pD (s, t)) := .tup h (.cons (.str s) (.cons (.str t) .nil))
/-- what is done so far: all pairs of the first i keys -/
def prsTo (g : List Row) (i : Nat) : List Pr := ((srcs g).take i).flatMap fun s => (tgS g s).map fun t => (s, t)
theorem prsTo_len {U : List Str} {g : List Row} (h : GOk U g) (i : Nat) : (prsTo g i).length ≤ 3844 := by
  have a := flat_len (f := tgS g) (ss := (srcs g).take i) fun s _ => h.fewT s
  have b := srcs_len h
  have c : ((srcs g).take i).length ≤ (srcs g).length := by rw [List.length_take]; omega
  unfold prsTo
  omega
theorem prsTo_succ {g : List Row} {i : Nat} {s : Str} (h : (srcs g)[i]? = some s) : prsTo g (i + 1) = prsTo g i ++ (tgS g s).map fun t => (s, t) := by
  unfold prsTo
  obtain ⟨hi, e⟩ := List.getElem?_eq_some_iff.mp h
  rw [List.take_succ_eq_append_getElem hi, List.flatMap_append, e]
  simp
section
variable {P : Program} {w : World} {K : PySem.W.Frag} {mg : Str → Option Value} {base : Heap}
theorem ok_pairs {f C : Addr} {fd : FuncData} {k : Nat} (F : Fun K "pairs" "Needs.pairs" sNPairs f fd) (B : Blt mg) (T : NdC K mg C) : FnOk P w K mg base CX0 (k + 1) f fd ["self"] (spPairs C) := by
  refine F.ok scNPairs (fun vs H Q E h => by obtain ⟨_, _, _, _, rfl, _⟩ := h; rfl) (fun cdv A outer s H vs Q E hr h => ?_)
  obtain ⟨x, A', U, g, rfl, nd, q⟩ := h
  have hu := hu_of hr
  refine ⟨_, pss_one (ps_ret (pe_lc2 (own := [("source", 1), ("target", 2)]) (vs1 := [2]) (g := gName 1) (tt := tYes) (g1 := gName 2) (tt1 := tYes) (te := tTup (tCons (tVar 1) (tCons (tVar 2) tNil))) (wi1 := iList K (tDGet (tFld K (tVar 0) "needed") (tVar 1))) rfl scNPairs.nd
    (pi_list (pe_callB (call_sortedD rfl) (by rfl) B.sorted bSorted (pa_cons (pe_fld (pv 0) rfl) pa_nil))) (blkOk_by (own := [("source", 1), ("target", 2)]) (N := nNPairs) (sc := defScope sNPairs) (by decide +kernel)) (by decide)
    (fun _ _ _ _ _ => pg_name (i := 1) scNPairs.nd rfl (Or.inl rfl)) (fun _ _ _ _ _ => pts_nil) (fun _ _ _ _ _ => by exact pi_list (pe_dget hu (pe_fld (pv 0) rfl) (pv 1) (fun _ _ => rfl))) (fun _ _ _ _ _ => pg_name (i := 2) scNPairs.nd rfl (Or.inl rfl)) (fun _ _ _ _ _ => pts_nil) (fun _ _ _ _ _ => by exact pe_tup (pa_cons (pv 1) (pa_cons (pv 2) pa_nil))))), ?_⟩
  have ks : EvL (tCB rSrtD (tCons (tFld K (tVar 0) "needed") tNil)) [some (.ref x), none, none] H ((srcs g).map V.str) := el_srcs T nd (ev_var rfl)
  unfold tRet tLc2 iList
  refine ks H (Ex.refl H) _ fun L H1 zL e1 hL => ?_
  refine ⟨L, rfl, ⟨_, sq_of hL⟩, fun D hD => ?_⟩
  have LD : L ≠ D := ne_of_none hL hD
  have len := srcs_len nd.ok
  -- the heap beside the new list
  have nd1 := nd.ex e1
  refine ⟨fun i m H2 => m = (srcs g).length - i ∧ i ≤ (srcs g).length ∧ ∃ acc, H2 D = some (.lst acc) ∧ DtAll (wo D H2) acc ((prsTo g i).map pD) ∧ Ex H1 (wo D H2), ⟨(srcs g).length, by simp, Nat.zero_le _, [], upd_same, .nil, fun b o hb => by rw [wo_ne (ne_of_none hb hD), upd_ne (ne_of_none hb hD)]; exact hb⟩, ?_⟩
  rintro i m H2 ⟨rfl, hi, acc, hacc, hdt, ex2⟩
  have low : Ex H1 H2 := ex2.trans (wo_ex D H2)
  by_cases hlt : i < (srcs g).length
  · have hs : (srcs g)[i]? = some (srcs g)[i] := List.getElem?_eq_getElem hlt
    generalize (srcs g)[i] = s0 at hs
    obtain ⟨r, hr'⟩ := srcs_row nd.ok (List.mem_of_getElem? hs)
    refine .inr ⟨⟨_, .str s0, sq_of (low _ _ hL), by rw [List.getElem?_map, hs]; rfl⟩, fun H3 => ∃ acc, H3 D = some (.lst acc) ∧ DtAll (wo D H3) acc ((prsTo g (i + 1)).map pD) ∧ Ex H1 (wo D H3), fun H' hN => ⟨(srcs g).length - (i + 1), by omega, rfl, hlt, hN⟩, fun y H' hy => ?_⟩
    obtain ⟨rfl, hy⟩ := hy
    have ey : y = .str s0 := by
      have z := hy _ (sq_of (low _ _ hL))
      rw [List.getElem?_map, hs] at z
      exact (Option.some.inj z).symm
    subst ey
    refine ⟨rfl, ?_⟩
    show tYes _ _ _
    have nd2 := nd1.ex low
    refine ⟨.ref x, rfl, x, C, A'.dx, _, .ref A'.dd, rfl, nd2.ob, T.cl, T.nN, rfl, .str s0, rfl, A'.dd, .ref r.a, rfl, ?_, r.a, rfl, ⟨_, sq_of (nd2.tg hr')⟩, ?_⟩
    · have z := DGet.k (k := Sum.inr s0) nd2.di
      rw [val_row, hr'] at z
      exact z
    refine ⟨fun j k H3 => k = (tgS g s0).length - j ∧ j ≤ (tgS g s0).length ∧ ∃ acc, H3 D = some (.lst acc) ∧ DtAll (wo D H3) acc ((prsTo g i ++ ((tgS g s0).take j).map fun t => (s0, t)).map pD) ∧ Ex H1 (wo D H3), ⟨(tgS g s0).length, by simp, Nat.zero_le _, acc, hacc, by rw [List.take_zero, List.map_nil, List.append_nil]; exact hdt, ex2⟩, ?_⟩
    rintro j k H3 ⟨rfl, hj, acc3, hacc3, hdt3, ex3⟩
    have low3 : Ex H1 H3 := ex3.trans (wo_ex D H3)
    have nd3 := nd1.ex low3
    by_cases hjt : j < (tgS g s0).length
    · have ht : (tgS g s0)[j]? = some (tgS g s0)[j] := List.getElem?_eq_getElem hjt
      have htk : (tgS g s0).take (j + 1) = (tgS g s0).take j ++ [(tgS g s0)[j]] := List.take_succ_eq_append_getElem hjt
      generalize (tgS g s0)[j] = t0 at ht htk
      refine .inr ⟨⟨_, .str t0, sq_of (nd3.tg hr'), by rw [List.getElem?_map, ht]; rfl⟩, fun H4 => ∃ acc, H4 D = some (.lst acc) ∧ DtAll (wo D H4) acc ((prsTo g i ++ ((tgS g s0).take (j + 1)).map fun t => (s0, t)).map pD) ∧ Ex H1 (wo D H4), fun H' hN => ⟨(tgS g s0).length - (j + 1), by omega, rfl, hjt, hN⟩, fun y2 H' hy2 => ?_⟩
      obtain ⟨rfl, hy2⟩ := hy2
      have ey2 : y2 = .str t0 := by
        have z := hy2 _ (sq_of (nd3.tg hr'))
        rw [List.getElem?_map, ht] at z
        exact (Option.some.inj z).symm
      subst ey2
      refine ⟨rfl, ?_⟩
      show tYes _ _ _
      refine ⟨.str s0, rfl, .str t0, rfl, by show 2 ≤ sizeLine; decide, fun Tp zT => ?_⟩
      have TD : Tp ≠ D := fun e => by rw [e, hacc3] at zT; cases zT
      have la := dtAll_len hdt3
      refine ⟨acc3, by rw [upd_ne TD.symm]; exact hacc3, ?_, acc3 ++ [.ref Tp], upd_same, ?_, ?_⟩
      · rw [la, List.length_map, List.length_append, List.length_map, List.length_take, sizeLine_eq]
        have a1 := prsTo_len nd.ok i
        have a2 := nd.ok.fewT s0
        omega
      · have exD : Ex (wo D H') (wo D (upd (upd H' Tp (.tup [.str s0, .str t0])) D (.lst (acc3 ++ [.ref Tp])))) := fun b o hb => by
          obtain ⟨n1, hb⟩ := wo_some hb
          rw [wo_ne n1, upd_ne n1, upd_ne (ne_of_none hb zT)]
          exact hb
        have em : (prsTo g i ++ ((tgS g s0).take (j + 1)).map fun t => (s0, t)).map pD = ((prsTo g i ++ ((tgS g s0).take j).map fun t => (s0, t)).map pD) ++ [pD (s0, t0)] := by
          rw [htk]
          simp
        rw [em]
        refine dtAll_app (DtAll.ex exD hdt3) (.cons (pD_dt ?_) .nil)
        rw [wo_ne TD, upd_ne TD, upd_same]
      · intro b o hb
        have n1 : b ≠ D := ne_of_none hb hD
        have hb3 := low3 b o hb
        rw [wo_ne n1, upd_ne n1, upd_ne (ne_of_none hb3 zT)]
        exact hb3
    · refine .inl ⟨⟨_, sq_of (nd3.tg hr'), by rw [List.length_map]; omega⟩, acc3, hacc3, ?_, ex3⟩
      rw [prsTo_succ hs]
      rw [List.take_of_length_le (by omega)] at hdt3
      exact hdt3
  · refine .inl ⟨⟨_, sq_of (low _ _ hL), by rw [List.length_map]; omega⟩, q D acc H2 (fresh_back e1 hD) (e1.trans low) hacc ?_⟩
    have ei : prsTo g i = prs g := by
      unfold prsTo prs
      rw [List.take_of_length_le (by omega)]
    rw [ei] at hdt
    exact hdt
end
end Cr
/-! graphs of needs: made, recorded, all of a source deleted -/
namespace Cr
open PySem PySem.Spec PyProof.Rows L2 Evl
abbrev sNInit : Stmt := inClass (topS 11) 0
abbrev sNRec : Stmt := inClass (topS 11) 7
theorem scNInit : FnScope ["self"] ["self"] (defScope sNInit) := ⟨rfl, rfl, rfl, by decide +kernel, rfl, by decide +kernel, by decide +kernel⟩
theorem scNRec : FnScope ["self", "source", "target"] ["self", "source", "target"] (defScope sNRec) := ⟨rfl, rfl, rfl, by decide +kernel, rfl, by decide +kernel, by decide +kernel⟩
def spNInit (C : Addr) : Sp := fun vs H Q _ => ∃ x dx, vs = [.ref x] ∧ H x = some (.ins C dx []) ∧ ∀ dd H', H dd = none → dd ≠ x → H' = upd (upd H dd (.dK [])) x (.ins C dx [("needed", .ref dd)]) → Q .non H'
/-- recorded: new or not, or a value that is no name -/
def spRecord (C CN : Addr) (n : Nat) : Sp := fun vs H Q E => ∃ x v u d e A U g, vs = [.ref x, v, u] ∧ NdAt C H x A U g ∧ Dt H v d ∧ Dt H u e ∧ sm d = true ∧ sm e = true ∧ cpyTo n d ∧ cpyTo n e ∧
  (isName d = false → ∀ dx H', Rsd1 H H' dx "value" d → E (.ref CN) (some dx) H') ∧ (isName d = true → isName e = false → ∀ dx H', Rsd1 H H' dx "value" e → E (.ref CN) (some dx) H') ∧
  (isName d = true → isName e = true → ∃ s t, d = .str s ∧ e = .str t ∧ s ∈ U ∧ t ∈ U ∧ (t ∈ tgS g s → ∀ H', Ex H H' → Q (.bl false) H') ∧
    (t ∉ tgS g s → ∀ l H', H l = none → But [A.dd] H H' → NdAt C H' x A U (putG g ⟨s, l, srtS (tgS g s ++ [t])⟩) → Q (.bl true) H'))
def dropG (g : List Row) (s : Str) : List Row := g.filter fun r => decide (r.s ≠ s)
theorem dropK_row (g : List Row) (s : Str) : dropK (g.map kvR) (Sum.inr s) = (dropG g s).map kvR := by
  unfold dropK dropG
  rw [List.filter_map]
  congr 1
  refine List.filter_congr fun r _ => ?_
  show decide ((Sum.inr r.s : Key) ≠ Sum.inr s) = decide (r.s ≠ s)
  exact decide_eq_decide.mpr ⟨fun h e => h (by rw [e]), fun h e => h (Sum.inr.inj e)⟩
theorem drop_ok {U : List Str} {g : List Row} (h : GOk U g) (s : Str) : GOk U (dropG g s) := by
  have m : ∀ {r : Row}, r ∈ dropG g s → r ∈ g := fun hr => (List.mem_filter.mp hr).1
  exact ⟨h.un, h.uf, List.Nodup.sublist (List.Sublist.map _ List.filter_sublist) h.keys, List.Nodup.sublist (List.Sublist.map _ List.filter_sublist) h.ads, fun r hr => h.nm r (m hr), fun r hr => h.ne r (m hr), fun r hr => h.up r (m hr), fun r hr => h.tn r (m hr)⟩
theorem rowOf_drop {g : List Row} {s : Str} (s' : Str) : rowOf (dropG g s) s' = if s' = s then none else rowOf g s' := by
  unfold rowOf dropG
  rw [List.find?_filter]
  by_cases h : s' = s
  · rw [if_pos h, List.find?_eq_none]
    intro r _ z
    rw [decide_eq_true_eq] at z
    obtain ⟨z1, z2⟩ := z
    have a := of_decide_eq_true z1
    have b := of_decide_eq_true z2
    exact a (b.trans h)
  · rw [if_neg h]
    congr 1
    funext r
    by_cases e : r.s = s'
    · rw [decide_eq_true e]
      refine decide_eq_true ⟨decide_eq_true fun z => h (e.symm.trans z), ?_⟩
      first | rfl | exact decide_eq_true e
    · rw [decide_eq_false e]
      exact decide_eq_false fun z => absurd z.2 Bool.false_ne_true
theorem tgS_drop {g : List Row} {s : Str} (s' : Str) : tgS (dropG g s) s' = if s' = s then [] else tgS g s' := by
  unfold tgS
  rw [rowOf_drop]
  by_cases h : s' = s
  · rw [if_pos h, if_pos h]
  · rw [if_neg h, if_neg h]
def spDelAll (C : Addr) : Sp := fun vs H Q _ => ∃ x v d A U g, vs = [.ref x, v] ∧ NdAt C H x A U g ∧ Dt H v d ∧ sm d = true ∧ (tgD g d = [] → ∀ H', Ex H H' → Q (.int 0) H') ∧
  (∀ s, d = .str s → tgS g s ≠ [] → ∀ H', But [A.dd] H H' → NdAt C H' x A U (dropG g s) → Q (.int ((tgS g s).length : Int)) H')
theorem srt_new {ts : List Str} {t : Str} (h : ts.Pairwise ltS) (n : t ∉ ts) : (srtS (ts ++ [t])).Pairwise ltS := srtS_lt (List.nodup_append.mpr ⟨rise_nodup h, List.pairwise_singleton _ _, fun a ha b hb e => n (by rw [List.mem_singleton.mp hb] at e; exact e ▸ ha)⟩)
section
variable {P : Program} {w : World} {K : PySem.W.Frag} {mg : Str → Option Value} {base : Heap}
theorem ok_ninit {f C : Addr} {fd : FuncData} {k : Nat} (F : Fun K "__init__" "Needs.__init__" sNInit f fd) (T : NdC K mg C) : FnOk P w K mg base CX0 (k + 1) f fd ["self"] (spNInit C) := by
  refine F.ok scNInit (fun vs H Q E h => by obtain ⟨_, _, rfl, _⟩ := h; rfl) (fun cdv A outer s H vs Q E hr h => ?_)
  obtain ⟨x, dx, rfl, hx, q⟩ := h
  refine ⟨_, pss_one (ps_fld (pv 0) pe_dnewK rfl), ?_⟩
  refine fun dd zd => ?_
  have n : dd ≠ x := fun e => by rw [e, hx] at zd; cases zd
  exact ⟨.ref x, rfl, x, C, dx, [], rfl, by rw [upd_ne n.symm]; exact hx, T.cl, T.nN, by show 0 < 1000; decide, q dd _ zd n rfl⟩
theorem ok_record {f C CN : Addr} {fd : FuncData} {k n : Nat} (F : Fun K "record" "Needs.record" sNRec f fd) (B : Blt mg) (T : NdC K mg C) (h0 : HasE P w K mg base k "check_name" ["value"] (spCheckN CN n)) (h1 : HasO P w K mg base k "bare_word" ["word"] spBareW) (h2 : HasM P w K mg base CX0 k C "targets" ["self", "name"] (spTargets C)) (h3 : HasM P w K mg base CX0 k C "is_need" ["self", "source", "target"] (spIsNeed C)) :
    FnOk P w K mg base (L2.CX P w) (k + 1) f fd ["self", "source", "target"] (spRecord C CN n) := by
  obtain ⟨f0, d0, G0, b0, k0, g0⟩ := h0.ex
  obtain ⟨f1, d1, G1, b1, k1, g1⟩ := h1.ex
  obtain ⟨f2, d2, G2, b2, m2⟩ := h2.ex
  obtain ⟨f3, d3, G3, b3, m3⟩ := h3.ex
  refine F.okX scNRec (fun vs H Q E h => by obtain ⟨_, _, _, _, _, _, _, _, rfl, _⟩ := h; rfl) (fun cdv A outer s H vs Q E hr h => ?_)
  obtain ⟨x, v, u, d, e, A', U, g, rfl, nd, hd, he, hs, hs2, hc, hc2, q1, q2, q3⟩ := h
  have hu := hu_of hr
  refine ⟨_, pss_cons (ps_expr (pe_call (E := E) G0 hr (by rfl) g0 k0 b0 .nil (passes_call (takes_of rfl rfl rfl rfl) fun _ _ _ _ h => h) (pa_cons (pv 1) pa_nil)))
    (pss_cons (ps_expr (pe_call (E := E) G0 hr (by rfl) g0 k0 b0 .nil (passes_call (takes_of rfl rfl rfl rfl) fun _ _ _ _ h => h) (pa_cons (pv 2) pa_nil)))
    (pss_cons (ps_if (pt_val (pe_meth (E := E0) (pv 0) T.cl m3 G3 hr b3 .nil pass0 (pa_cons (pv 1) (pa_cons (pv 2) pa_nil)))) (pss_one (ps_ret pe_bl)) pss_nil)
    (pss_cons (ps_dput hu (pe_fld (pv 0) rfl) (pe_call (E := E0) G1 hr (by rfl) g1 k1 b1 .nil pass0 (pa_cons (pv 1) pa_nil)) (pe_callB cr_sortedS (by rfl) B.sorted bSorted (pa_cons (pe_op op_cat (pe_meth (E := E0) (pv 0) T.cl m2 G2 hr b2 .nil pass0 (pa_cons (pv 1) pa_nil)) (pe_lst (pa_cons (pe_call (E := E0) G1 hr (by rfl) g1 k1 b1 .nil pass0 (pa_cons (pv 2) pa_nil)) pa_nil))) pa_nil)) rfl)
    (pss_one (ps_ret pe_bl))))), ?_⟩
  refine ⟨v, rfl, v, d, rfl, hd, hs, hc, fun n1 H1 e1 => ?_, q1⟩
  refine ⟨u, rfl, u, e, rfl, Dt.ex e1 he, hs2, hc2, fun n2 H2 e2 => ?_, fun n2 dx H' r => q2 n1 n2 dx H' (r.back e1)⟩
  obtain ⟨s0, t0, rfl, rfl, sU, tU, qf, qt⟩ := q3 n1 n2
  cases hd with
  | str =>
  cases he with
  | str =>
  have e12 := e1.trans e2
  have nd2 := nd.ex e12
  refine q_when (b := isNd g (.str s0) (.str t0)) (et_B (ev_meth (ev_var rfl) nd2.ob rfl (ea_cons (ev_var rfl) (ea_cons (ev_var rfl) ea_nil)) (spv_isNeed nd2 (.str s0) (.str t0) hs hs2))) (fun hb H3 e3 => ?_) (fun hb H3 e3 => ?_)
  · exact s_ret ev_c fun H4 e4 => qf (of_decide_eq_true hb) H4 ((e12.trans e3).trans e4)
  have nt : t0 ∉ tgS g s0 := of_decide_eq_false hb
  have e13 := e12.trans e3
  have nd3 := nd.ex e13
  have lb : ∀ {z : Str}, isNameS z = true → z.length ≤ 1000 := fun {z} h => by
    have := sm_name h
    rw [sm] at this
    exact of_decide_eq_true this
  have tg : EvL (tMeth C "targets" (spTargets C) [] E0 (tVar 0) (tCons (tVar 1) tNil)) [some (.ref x), some (.str s0), some (.str t0)] H3 ((tgS g s0).map V.str) := el_meth (ev_var rfl) nd3.ob rfl (ea_cons (ev_var rfl) ea_nil) (spl_targets nd3 (.str s0) hs)
  have bw : ∀ {H' : Hp} {i : Nat} {z : Str}, isNameS z = true → ([some (V.ref x), some (.str s0), some (.str t0)] : L2.St)[i]? = some (some (.str z)) → Ev (tCall spBareW [] E0 (tCons (tVar i) tNil)) [some (.ref x), some (.str s0), some (.str t0)] H' (.str z) := fun hz hi => ev_call (ea_cons (ev_var hi) ea_nil) fun H1 e1 Q q E => ⟨_, rfl, lb hz, q⟩
  refine tg H3 (Ex.refl H3) _ fun L H4 zL e4 hL => ?_
  refine bw (H' := H4) (i := 2) (z := t0) n2 rfl H4 (Ex.refl H4) _ fun H5 e5 => ⟨by show 1 ≤ sizeLine; decide, fun M zM => ?_⟩
  have hL5 := (Ex.new (o := .lst [.str t0]) zM) _ _ (e5 _ _ hL)
  have few := nd.ok.fewT s0
  refine ⟨L, M, (tgS g s0).map V.str, [.str t0], rfl, rfl, hL5, upd_same, by rw [List.length_map, sizeLine_eq]; show (tgS g s0).length + 1 ≤ _; omega, fun Z zZ => ?_⟩
  refine ⟨Z, tgS g s0 ++ [t0], rfl, by rw [List.map_append]; exact sq_of upd_same, by rw [List.length_append, List.length_singleton]; omega, fun ys p hp hso zp => ?_⟩
  have e6 : Ex H3 (upd (upd (upd H5 M (.lst [.str t0])) Z (.lst ((tgS g s0).map V.str ++ [.str t0]))) p (.lst (ys.map V.str))) := (((e4.trans e5).trans (Ex.new zM)).trans (Ex.new zZ)).trans (Ex.new zp)
  have eys := sorted_is hp hso
  have pp : (upd (upd (upd H5 M (.lst [.str t0])) Z (.lst ((tgS g s0).map V.str ++ [.str t0]))) p (.lst (ys.map V.str))) p = some (.lst (ys.map V.str)) := upd_same
  have zp3 : H3 p = none := fresh_back (((e4.trans e5).trans (Ex.new zM)).trans (Ex.new zZ)) zp
  generalize (upd (upd (upd H5 M (.lst [.str t0])) Z (.lst ((tgS g s0).map V.str ++ [.str t0]))) p (.lst (ys.map V.str))) = H6 at e6 pp
  have nd6 := nd3.ex e6
  refine ⟨.ref x, rfl, x, C, A'.dx, _, .ref A'.dd, rfl, nd6.ob, T.cl, T.nN, rfl, ?_⟩
  refine bw (H' := H6) (i := 1) (z := s0) n1 rfl H6 (Ex.refl H6) _ fun H7 e7 => ?_
  have nd7 := nd6.ex e7
  refine ⟨A'.dd, _, rfl, DPut.k (k := Sum.inr s0) nd7.di ?_, ?_⟩
  · rw [List.length_map, sizeLine_eq]
    have := nd.ok.fewK
    omega
  have ek : putK (g.map kvR) (Sum.inr s0) (.ref p) = (putG g ⟨s0, p, ys⟩).map kvR := putK_row g ⟨s0, p, ys⟩
  rw [ek]
  have zp0 : H p = none := fresh_back e13 zp3
  have pa : ∀ r ∈ g, r.a ≠ p := fun r hr => ne_of_none (nd.ls r hr) zp0
  have px : x ≠ p := ne_of_none nd.ob zp0
  have pd : A'.dd ≠ p := ne_of_none nd.di zp0
  have e37 := (e13.trans e6).trans e7
  dsimp only
  refine s_ret ev_c fun H8 e8 => ?_
  refine qt nt p H8 zp0 (fun b o nb hb => e8 _ _ ?_) ?_
  · have nb' : b ≠ A'.dd := fun z => nb (by rw [z]; exact List.mem_cons_self)
    rw [upd_ne nb']
    exact e37 _ _ hb
  · rw [← eys]
    refine NdAt.ex ?_ e8
    refine ⟨by rw [upd_ne nd.xd]; exact nd7.ob, upd_same, fun r hr => ?_, ?_⟩
    · rcases mem_put hr with rfl | hr
      · rw [upd_ne pd.symm]
        exact e7 _ _ pp
      · rw [upd_ne (nd.da hr).symm]
        exact nd7.ls r hr
    · refine put_ok nd.ok sU (fun z => ?_) ?_ (fun t ht => ?_) pa
      · have l := hp.length_eq
        have z' : ys = [] := z
        rw [z', List.length_append, List.length_singleton] at l
        simp at l
      · show ys.Pairwise ltS
        rw [eys]
        exact srt_new (nd.ok.up' s0) nt
      · have m := hp.mem_iff.mp ht
        rcases List.mem_append.mp m with m | m
        · exact (nd.ok.tgU m).2
        · rw [List.mem_singleton.mp m]; exact tU
end
end Cr
/-! paths from a name, the shortest first: the list that grows while it is walked -/
namespace Cr
open PySem PySem.Spec PyProof.Rows L2 Evl
theorem nodup_len : ∀ {ws us : List Str}, ws.Nodup → (∀ w ∈ ws, w ∈ us) → ws.length ≤ us.length
  | [], _, _, _ => Nat.zero_le _
  | w :: ws, us, nd, h => by
    have hw := h w (List.mem_cons_self ..)
    rw [List.nodup_cons] at nd
    have ih := nodup_len (us := us.erase w) nd.2 fun x hx => (List.mem_erase_of_ne (fun e : x = w => nd.1 (by rw [← e]; exact hx))).mpr (h x (List.mem_cons_of_mem _ hx))
    rw [List.length_erase_of_mem hw] at ih
    have : 0 < us.length := List.length_pos_of_mem hw
    rw [List.length_cons]
    omega
def lastP (p : List Str) : Str := p.getLastD ""
def lasts (q : List (List Str)) : List Str := q.map lastP
theorem lastP_app (p : List Str) (t : Str) : lastP (p ++ [t]) = t := by
  unfold lastP
  rw [List.getLastD_eq_getLast?, List.getLast?_append]
  rfl
theorem lastP_split {p : List Str} (h : p ≠ []) : p.dropLast ++ [lastP p] = p := by
  unfold lastP
  rw [List.getLastD_eq_getLast?, List.getLast?_eq_some_getLast h]
  exact List.dropLast_concat_getLast h
theorem lasts_app (a b : List (List Str)) : lasts (a ++ b) = lasts a ++ lasts b := List.map_append
/-- one target more -/
def ext1 (p : List Str) (q : List (List Str)) (t : Str) : List (List Str) := if t ∈ lasts q then q else q ++ [p ++ [t]]
def ext (ts : List Str) (p : List Str) (q : List (List Str)) : List (List Str) := ts.foldl (ext1 p) q
/-- when i of them have been walked -/
def runP (T : Str → List Str) (a : Str) : Nat → List (List Str)
  | 0 => [[a]]
  | i + 1 => match (runP T a i)[i]? with
    | some p => ext (T (lastP p)) p (runP T a i)
    | none => runP T a i
inductive Reach (T : Str → List Str) (a : Str) : Str → Prop
  | refl : Reach T a a
  | step {b t : Str} : Reach T a b → t ∈ T b → Reach T a t
theorem Reach.mono {T T' : Str → List Str} {a b : Str} (h : ∀ s t, t ∈ T s → t ∈ T' s) (r : Reach T a b) : Reach T' a b := by
  induction r with
  | refl => exact .refl
  | step _ m ih => exact .step ih (h _ _ m)
theorem ext1_pre (p : List Str) (q : List (List Str)) (t : Str) : q <+: ext1 p q t := by
  unfold ext1
  split
  · exact List.prefix_rfl
  · exact List.prefix_append _ _
theorem ext_pre (ts : List Str) (p : List Str) : ∀ q, q <+: ext ts p q := by
  induction ts with
  | nil => intro q; exact List.prefix_rfl
  | cons t ts ih => intro q; exact (ext1_pre p q t).trans (ih (ext1 p q t))
theorem lasts_pre {a b : List (List Str)} (h : a <+: b) : lasts a <+: lasts b := h.map _
theorem ext1_mem {p : List Str} {q : List (List Str)} {t : Str} {x : List Str} (h : x ∈ ext1 p q t) : x ∈ q ∨ x = p ++ [t] := by
  unfold ext1 at h
  split at h
  · exact .inl h
  · rcases List.mem_append.mp h with h | h
    · exact .inl h
    · exact .inr (List.mem_singleton.mp h)
theorem ext_mem {p x : List Str} : ∀ {ts : List Str} {q : List (List Str)}, x ∈ ext ts p q → x ∈ q ∨ ∃ t ∈ ts, x = p ++ [t]
  | [], q, h => .inl h
  | t :: ts, q, h => by
    rcases ext_mem (ts := ts) (q := ext1 p q t) h with h | ⟨u, hu, e⟩
    · rcases ext1_mem h with h | h
      · exact .inl h
      · exact .inr ⟨t, List.mem_cons_self, h⟩
    · exact .inr ⟨u, List.mem_cons_of_mem _ hu, e⟩
theorem ext1_nd {p : List Str} {q : List (List Str)} {t : Str} (h : (lasts q).Nodup) : (lasts (ext1 p q t)).Nodup := by
  unfold ext1
  split
  · exact h
  · rename_i n
    rw [lasts_app]
    refine List.nodup_append.mpr ⟨h, List.pairwise_singleton _ _, fun a ha b hb e => n ?_⟩
    have hb' : b = lastP (p ++ [t]) := List.mem_singleton.mp hb
    rw [lastP_app] at hb'
    rw [← hb', ← e]
    exact ha
theorem ext_nd {p : List Str} : ∀ {ts : List Str} {q : List (List Str)}, (lasts q).Nodup → (lasts (ext ts p q)).Nodup
  | [], _, h => h
  | _ :: ts, _, h => ext_nd (ts := ts) (ext1_nd h)
theorem ext1_has (p : List Str) (q : List (List Str)) (t : Str) : t ∈ lasts (ext1 p q t) := by
  unfold ext1
  split
  · assumption
  · rw [lasts_app]
    refine List.mem_append_right _ ?_
    show t ∈ [lastP (p ++ [t])]
    rw [lastP_app]
    exact List.mem_singleton.mpr rfl
theorem ext_has {p : List Str} {t : Str} : ∀ {ts : List Str} {q : List (List Str)}, t ∈ ts → t ∈ lasts (ext ts p q)
  | u :: ts, q, h => by
    rcases List.mem_cons.mp h with rfl | h
    · exact (lasts_pre (ext_pre ts p _)).subset (ext1_has p q _)
    · exact ext_has (ts := ts) h
theorem ext_take {ts : List Str} {p : List Str} {q : List (List Str)} {k : Nat} {t : Str} (h : ts[k]? = some t) : ext (ts.take (k + 1)) p q = ext1 p (ext (ts.take k) p q) t := by
  unfold ext
  rw [List.take_add_one, h, List.foldl_append]
  rfl
section
variable {T : Str → List Str} {a : Str}
theorem run_some {i : Nat} {p : List Str} (h : (runP T a i)[i]? = some p) : runP T a (i + 1) = ext (T (lastP p)) p (runP T a i) := by
  rw [runP, h]
theorem run_none {i : Nat} (h : (runP T a i).length ≤ i) : runP T a (i + 1) = runP T a i := by
  rw [runP, List.getElem?_eq_none h]
theorem run_pre1 (i : Nat) : runP T a i <+: runP T a (i + 1) := by
  rw [runP]
  split
  · exact ext_pre _ _ _
  · exact List.prefix_rfl
theorem run_pre {i j : Nat} (h : i ≤ j) : runP T a i <+: runP T a j := by
  induction j with
  | zero => rw [Nat.le_zero.mp h]; exact List.prefix_rfl
  | succ j ih =>
    by_cases e : i = j + 1
    · rw [e]; exact List.prefix_rfl
    · exact (ih (by omega)).trans (run_pre1 j)
theorem run_nd (i : Nat) : (lasts (runP T a i)).Nodup := by
  induction i with
  | zero => exact List.pairwise_singleton _ _
  | succ i ih =>
    rw [runP]
    split
    · exact ext_nd ih
    · exact ih
theorem run_ne {i : Nat} {p : List Str} (h : p ∈ runP T a i) : p ≠ [] := by
  induction i generalizing p with
  | zero =>
    rw [List.mem_singleton.mp h]
    exact List.cons_ne_nil _ _
  | succ i ih =>
    rw [runP] at h
    split at h
    · rcases ext_mem h with h | ⟨t, _, rfl⟩
      · exact ih h
      · simp
    · exact ih h
theorem run_len {i : Nat} {p : List Str} (h : p ∈ runP T a i) : p.length ≤ i + 1 := by
  induction i generalizing p with
  | zero =>
    rw [List.mem_singleton.mp h]
    exact Nat.le_refl _
  | succ i ih =>
    rw [runP] at h
    split at h
    · rename_i z hz
      rcases ext_mem h with h | ⟨t, _, rfl⟩
      · have := ih h; omega
      · have := ih (List.mem_of_getElem? hz)
        rw [List.length_append, List.length_singleton]
        omega
    · have := ih h; omega
theorem run_reach {i : Nat} {b : Str} (h : b ∈ lasts (runP T a i)) : Reach T a b := by
  induction i generalizing b with
  | zero =>
    have e : b = lastP [a] := List.mem_singleton.mp h
    rw [e]
    exact .refl
  | succ i ih =>
    rw [runP] at h
    split at h
    · rename_i p hp
      obtain ⟨x, hx, rfl⟩ := List.mem_map.mp h
      rcases ext_mem hx with hx | ⟨t, ht, rfl⟩
      · exact ih (List.mem_map_of_mem hx)
      · rw [lastP_app]
        exact .step (ih (List.mem_map_of_mem (List.mem_of_getElem? hp))) ht
    · exact ih h
theorem run_start (i : Nat) : a ∈ lasts (runP T a i) := (lasts_pre (run_pre (Nat.zero_le i))).subset (List.mem_singleton.mpr rfl)
theorem run_closed {i k : Nat} (hk : k < i) {p : List Str} (hp : (runP T a i)[k]? = some p) {t : Str} (ht : t ∈ T (lastP p)) : t ∈ lasts (runP T a i) := by
  induction i with
  | zero => omega
  | succ i ih =>
    by_cases e : k < (runP T a i).length
    · obtain ⟨z, hz⟩ := run_pre1 (T := T) (a := a) i
      have hp' : (runP T a i)[k]? = some p := by rw [← hz, List.getElem?_append_left e] at hp; exact hp
      by_cases ki : k = i
      · subst ki
        rw [run_some hp']
        exact ext_has ht
      · exact (lasts_pre (run_pre1 i)).subset (ih (by omega) hp')
    · rw [run_none (by omega)] at hp ⊢
      rw [List.getElem?_eq_none (by omega)] at hp
      cases hp
theorem run_stable {i : Nat} (h : (runP T a i).length ≤ i) (j : Nat) : runP T a (i + j) = runP T a i := by
  induction j with
  | zero => rfl
  | succ j ih =>
    rw [← Nat.add_assoc, run_none (by rw [ih]; omega), ih]
/-- at the end: just what can be reached -/
theorem run_done {i : Nat} (h : (runP T a i).length ≤ i) {b : Str} : b ∈ lasts (runP T a i) ↔ Reach T a b := by
  refine ⟨run_reach, fun r => ?_⟩
  induction r with
  | refl => exact run_start i
  | step _ m ih =>
    obtain ⟨p, hp, rfl⟩ := List.mem_map.mp ih
    obtain ⟨k, hk, e⟩ := List.mem_iff_getElem.mp hp
    exact run_closed (k := k) (by omega) (by rw [List.getElem?_eq_getElem hk, e]) m
/-- all paths, the shortest first -/
def pathsP (T : Str → List Str) (a : Str) : List (List Str) := runP T a 64
theorem run_few {U : List Str} (hT : ∀ s t, t ∈ T s → t ∈ U) (hU : U.length ≤ 62) (i : Nat) : (runP T a i).length ≤ 63 := by
  have : (lasts (runP T a i)).length ≤ (a :: U).length := nodup_len (run_nd i) fun b hb => by
    cases run_reach hb with
    | refl => exact List.mem_cons_self
    | step _ m => exact List.mem_cons_of_mem _ (hT _ _ m)
  unfold lasts at this
  rw [List.length_map, List.length_cons] at this
  omega
theorem run_is {U : List Str} (hT : ∀ s t, t ∈ T s → t ∈ U) (hU : U.length ≤ 62) {i : Nat} (h : (runP T a i).length ≤ i) : runP T a i = pathsP T a := by
  unfold pathsP
  by_cases e : i ≤ 64
  · have := run_stable h (64 - i)
    rw [show i + (64 - i) = 64 by omega] at this
    exact this.symm
  · have := run_stable (T := T) (a := a) (i := 64) (by have := run_few (a := a) hT hU 64; omega) (i - 64)
    rw [show 64 + (i - 64) = i by omega] at this
    exact this
theorem paths_done {U : List Str} (hT : ∀ s t, t ∈ T s → t ∈ U) (hU : U.length ≤ 62) {b : Str} : b ∈ lasts (pathsP T a) ↔ Reach T a b :=
  run_done (i := 64) (by have := run_few (a := a) hT hU 64; omega)
end
end Cr
/-! graphs of needs: the shortest paths from a name -/
namespace Cr
open PySem PySem.Spec PyProof.Rows L2 Evl
abbrev sNSh : Stmt := inClass (topS 11) 13
abbrev nNSh : List Str := ["self", "name", "found", "reached", "latest", "longer", "path", "target"]
theorem scNSh : FnScope nNSh ["self", "name"] (defScope sNSh) := ⟨rfl, rfl, rfl, by decide +kernel, rfl, by decide +kernel, by decide +kernel⟩
/-- lists of texts at places -/
structure PA (H : Hp) (rs : List Addr) (q : List (List Str)) : Prop where
  len : rs.length = q.length
  at_ : ∀ (k : Nat) (r : Addr) (p : List Str), rs[k]? = some r → q[k]? = some p → H r = some (.lst (p.map V.str))
theorem PA.keep {H H' : Hp} {rs : List Addr} {q : List (List Str)} (h : PA H rs q) (k : ∀ r ∈ rs, ∀ o, H r = some o → H' r = some o) : PA H' rs q := ⟨h.len, fun i r p hr hp => k r (List.mem_of_getElem? hr) _ (h.at_ i r p hr hp)⟩
theorem PA.ex {H H' : Hp} {rs : List Addr} {q : List (List Str)} (h : PA H rs q) (e : Ex H H') : PA H' rs q := h.keep fun r _ o => e r o
theorem PA.push {H : Hp} {rs : List Addr} {q : List (List Str)} {z : Addr} {p : List Str} (h : PA H rs q) (hz : H z = some (.lst (p.map V.str))) : PA H (rs ++ [z]) (q ++ [p]) := by
  refine ⟨by rw [List.length_append, List.length_append, h.len]; rfl, fun k r p' hr hp => ?_⟩
  by_cases hk : k < rs.length
  · rw [List.getElem?_append_left hk] at hr
    rw [List.getElem?_append_left (by rw [← h.len]; exact hk)] at hp
    exact h.at_ k r p' hr hp
  · rw [List.getElem?_append_right (by omega)] at hr
    rw [List.getElem?_append_right (by rw [← h.len]; omega), ← h.len] at hp
    have k0 : k - rs.length = 0 := by
      by_cases e : k - rs.length = 0
      · exact e
      · rw [List.getElem?_eq_none (by show 1 ≤ _; omega)] at hr; cases hr
    rw [k0] at hr hp
    cases hr
    cases hp
    exact hz
theorem PA.nil {H : Hp} : PA H [] [] := ⟨rfl, fun k r p hr _ => by rw [List.getElem?_nil] at hr; cases hr⟩
def kT (t : Str) : Key × V := (Sum.inr t, .bl true)
theorem kT_any (ts : List Str) (t : Str) : ((ts.map kT).any fun kv => decide (kv.1 = Sum.inr t)) = decide (t ∈ ts) := by
  rw [Bool.eq_iff_iff, List.any_eq_true, decide_eq_true_eq]
  constructor
  · rintro ⟨kv, hm, h⟩
    obtain ⟨u, hu, rfl⟩ := List.mem_map.mp hm
    have e : u = t := Sum.inr.inj (of_decide_eq_true h)
    rw [← e]; exact hu
  · exact fun h => ⟨kT t, List.mem_map_of_mem h, decide_eq_true rfl⟩
theorem kT_put {ts : List Str} {t : Str} (h : t ∉ ts) : putK (ts.map kT) (Sum.inr t) (.bl true) = (ts ++ [t]).map kT := by
  unfold putK
  rw [kT_any, decide_eq_false h, if_neg Bool.false_ne_true, List.map_append]
  rfl
theorem kT_val (ts : List Str) (t : Str) : (valV (ts.map kT) (Sum.inr t)).isSome = decide (t ∈ ts) := by rw [← valV_any, kT_any]
/-- while the paths grow -/
structure Bf (H0 H : Hp) (f dr lg : Addr) (rs ns : List Addr) (q : List (List Str)) : Prop where
  fr : Ex H0 H
  hf : H f = some (.lst (rs.map V.ref))
  hd : H dr = some (.dK ((lasts q).map kT))
  hl : H lg = some (.lst (ns.map V.ref))
  pa : PA H (rs ++ ns) q
  zf : H0 f = none
  zd : H0 dr = none
  zl : H0 lg = none
  nfl : f ≠ lg
  nr : ∀ r ∈ rs ++ ns, r ≠ f ∧ r ≠ lg ∧ H0 r = none
section
variable {H0 H H1 H2 : Hp} {f dr lg : Addr} {rs ns : List Addr} {q : List (List Str)}
theorem Bf.fd (b : Bf H0 H f dr lg rs ns q) : f ≠ dr := fun e => by have z := b.hf; rw [e, b.hd] at z; cases z
theorem Bf.ld (b : Bf H0 H f dr lg rs ns q) : lg ≠ dr := fun e => by have z := b.hl; rw [e, b.hd] at z; cases z
theorem Bf.ex (b : Bf H0 H f dr lg rs ns q) (e : Ex H H1) : Bf H0 H1 f dr lg rs ns q := ⟨b.fr.trans e, e _ _ b.hf, e _ _ b.hd, e _ _ b.hl, b.pa.ex e, b.zf, b.zd, b.zl, b.nfl, b.nr⟩
theorem Bf.rd (b : Bf H0 H f dr lg rs ns q) {r : Addr} (hr : r ∈ rs ++ ns) : r ≠ dr := fun e => by
  obtain ⟨k, hk, e'⟩ := List.mem_iff_getElem.mp hr
  have hk2 : k < q.length := by rw [← b.pa.len]; exact hk
  have z := b.pa.at_ k r q[k] (by rw [List.getElem?_eq_getElem hk, e']) (List.getElem?_eq_getElem hk2)
  rw [e, b.hd] at z
  cases z
/-- one path more -/
theorem Bf.push {t : Str} {p : List Str} {Z : Addr} (b : Bf H0 H f dr lg rs ns q) (h1 : H1 = upd H dr (.dK ((lasts q ++ [t]).map kT))) (e2 : Ex H1 H2) (zz : H1 Z = none) (hz : H2 Z = some (.lst ((p ++ [t]).map V.str))) :
    Bf H0 (upd H2 lg (.lst ((ns ++ [Z]).map V.ref))) f dr lg rs (ns ++ [Z]) (q ++ [p ++ [t]]) := by
  have k1 : ∀ {c : Addr} {o : HO}, c ≠ dr → H c = some o → H1 c = some o := fun n h => by rw [h1, upd_ne n]; exact h
  have k3 : ∀ {c : Addr} {o : HO}, c ≠ dr → c ≠ lg → H c = some o → (upd H2 lg (.lst ((ns ++ [Z]).map V.ref))) c = some o := fun n m h => by rw [upd_ne m]; exact e2 _ _ (k1 n h)
  have zl2 : lg ≠ Z := fun e => by rw [← e, k1 b.ld b.hl] at zz; cases zz
  have zf2 : f ≠ Z := fun e => by rw [← e, k1 b.fd b.hf] at zz; cases zz
  have z0 : H0 Z = none := by
    cases hh : H0 Z with
    | none => rfl
    | some o =>
      have n : Z ≠ dr := fun e => by rw [e, b.zd] at hh; cases hh
      rw [k1 n (b.fr _ _ hh)] at zz
      cases zz
  refine ⟨fun c o hc => ?_, k3 b.fd b.nfl b.hf, ?_, upd_same, ?_, b.zf, b.zd, b.zl, b.nfl, fun r hr => ?_⟩
  · exact k3 (fun e => by rw [e, b.zd] at hc; cases hc) (fun e => by rw [e, b.zl] at hc; cases hc) (b.fr _ _ hc)
  · rw [upd_ne b.ld.symm]
    have e : lasts (q ++ [p ++ [t]]) = lasts q ++ [t] := by
      rw [lasts_app]
      show lasts q ++ [lastP (p ++ [t])] = _
      rw [lastP_app]
    rw [e]
    exact e2 _ _ (by rw [h1, upd_same])
  · rw [← List.append_assoc]
    refine (b.pa.keep fun r hr o ho => k3 (b.rd hr) (b.nr r hr).2.1 ho).push ?_
    rw [upd_ne zl2.symm]
    exact hz
  · rw [← List.append_assoc] at hr
    rcases List.mem_append.mp hr with hr | hr
    · exact b.nr r hr
    · rw [List.mem_singleton.mp hr]
      exact ⟨zf2.symm, zl2.symm, z0⟩
end
end Cr
/-! graphs of needs: the shortest paths from a name -/
namespace Cr
open PySem PySem.Spec PyProof.Rows L2 Evl
def spShort (C : Addr) : Sp := fun vs H Q _ => ∃ x a A U g, vs = [.ref x, .str a] ∧ NdAt C H x A U g ∧ isNameS a = true ∧ ∀ l rs H', H l = none → Ex H H' → H' l = some (.lst (rs.map V.ref)) → PA H' rs (pathsP (tgS g) a) → (∀ r ∈ rs, r ≠ l ∧ H r = none) → Q (.ref l) H'
section
variable {P : Program} {w : World} {K : PySem.W.Frag} {mg : Str → Option Value} {base : Heap}
theorem ok_short {f C : Addr} {fd : FuncData} {k : Nat} (F : Fun K "shortest_paths" "Needs.shortest_paths" sNSh f fd) (B : Blt mg) (T : NdC K mg C) (h1 : HasO P w K mg base k "bare_word" ["word"] spBareW) (h2 : HasM P w K mg base CX0 k C "targets" ["self", "name"] (spTargets C)) : FnOk P w K mg base CX0 (k + 1) f fd ["self", "name"] (spShort C) := by
  obtain ⟨f1, d1, G1, b1, k1, g1⟩ := h1.ex
  obtain ⟨f2, d2, G2, b2, m2⟩ := h2.ex
  refine F.ok scNSh (fun vs H Q E h => by obtain ⟨_, _, _, _, _, rfl, _⟩ := h; rfl) (fun cdv A outer s H vs Q E hr h => ?_)
  obtain ⟨x, a, A', U, g, rfl, nd, na, q⟩ := h
  have hu := hu_of hr
  refine ⟨_, pss_cons (ps_set (i := 2) scNSh.nd rfl (.inl rfl) (pe_lst pa_nil))
    (pss_cons (ps_set (i := 3) scNSh.nd rfl (.inl rfl) (pe_disp (pps_cons (pv 1) pe_bl pps_nil) rfl rfl (by simp) (by decide)))
    (pss_cons (ps_set (i := 4) scNSh.nd rfl (.inl rfl) (pe_lst (pa_cons (pe_lst (pa_cons (pe_call (E := E0) G1 hr (by rfl) g1 k1 b1 .nil pass0 (pa_cons (pv 1) pa_nil)) pa_nil)) pa_nil)))
    (pss_cut (ps_while PassesOwn.never (pt_cmpR op_gt (pe_callB call_len_seq (by rfl) B.len bLen (pa_cons (pv 4) pa_nil)) pe_int (nomark _))
      (pss_cons (ps_aug (i := 2) scNSh.nd rfl (.inl rfl) (pv 4) iop_ext)
      (pss_cons (ps_set (i := 5) scNSh.nd rfl (.inl rfl) (pe_lst pa_nil))
      (pss_cut (ps_for PassesOwn.never rfl (pi_list (pv 4)) (pg_name (i := 6) scNSh.nd rfl (.inl rfl))
        (pss_one (ps_for PassesOwn.never rfl (pi_list (pe_meth (E := E0) (pv 0) T.cl m2 G2 hr b2 .nil pass0 (pa_cons (pe_ix ix_list (pv 6) (pe_un un_neg pe_int) (fun _ _ => rfl)) pa_nil))) (pg_name (i := 7) scNSh.nd rfl (.inl rfl))
          (pss_one (ps_if (pt_cmp (pc_dnotin hu (pv 7) (pv 3)))
            (pss_cons (ps_dput hu (pv 3) (pv 7) pe_bl rfl)
            (pss_one (ps_expr (pe_bm PySem.F.plainAttrs_list PySem.F.slot_list_append PySem.F.type_list_append mt_append (pv 5) (pa_cons (pe_op op_cat (pv 6) (pe_lst (pa_cons (pv 7) pa_nil))) pa_nil))))) pss_nil)))))
      (pss_one (ps_set (i := 4) scNSh.nd rfl (.inl rfl) (pv 5)))))))
    (pss_one (ps_ret (pv 2)))))), ?_⟩
  have hT : ∀ s t, t ∈ tgS g s → t ∈ U := fun s t m => (nd.ok.tgU m).2
  have few := fun i => run_few (a := a) hT nd.ok.uf i
  have la1 : a.length ≤ 1000 := by
    have := sm_name na
    rw [sm] at this
    exact of_decide_eq_true this
  refine ⟨by show 0 ≤ sizeLine; decide, fun f zf => ?_⟩
  refine fun dr zd => ⟨.str a, rfl, upd_same, [kT a], rfl, by show 1 ≤ 15; decide, ?_⟩
  refine ⟨.str a, rfl, a, rfl, la1, fun H1 e1 => ⟨by show 1 ≤ sizeLine; decide, fun r0 zr => ⟨by show 1 ≤ sizeLine; decide, fun la zl => ?_⟩⟩⟩
  dsimp only
  have ndf : dr ≠ f := fun e => by rw [e, upd_same] at zd; cases zd
  have zd0 : H dr = none := by rw [upd_ne ndf] at zd; exact zd
  have hf1 : H1 f = some (.lst []) := e1 _ _ (by rw [upd_ne ndf.symm, upd_ne ndf.symm, upd_same])
  have hd1 : H1 dr = some (.dK [kT a]) := e1 _ _ upd_same
  have x1 : Ex H H1 := fun c o hc => e1 _ _ (by rw [upd_ne (ne_of_none hc zd0), upd_ne (ne_of_none hc zd0), upd_ne (ne_of_none hc zf)]; exact hc)
  have e2 : Ex H1 (upd H1 r0 (.lst [.str a])) := Ex.new zr
  have e3 : Ex (upd H1 r0 (.lst [.str a])) (upd (upd H1 r0 (.lst [.str a])) la (.lst [.ref r0])) := Ex.new zl
  have x3 := (x1.trans e2).trans e3
  have B0 : Bf H (upd (upd H1 r0 (.lst [.str a])) la (.lst [.ref r0])) f dr la [] [r0] (runP (tgS g) a 0) := by
    have nl : f ≠ la := ne_of_none (e2 _ _ hf1) zl
    have rl : r0 ≠ la := ne_of_none upd_same zl
    refine ⟨x3, e3 _ _ (e2 _ _ hf1), e3 _ _ (e2 _ _ hd1), upd_same, ?_, zf, zd0, fresh_back (x1.trans e2) zl, nl, fun r hr => ?_⟩
    · exact PA.nil.push (by rw [upd_ne rl]; exact upd_same)
    · rw [List.mem_singleton.mp hr]
      exact ⟨(ne_of_none hf1 zr).symm, rl, fresh_back x1 zr⟩
  generalize upd (upd H1 r0 (.lst [.str a])) la (.lst [.ref r0]) = H3 at B0
  have nm : ∀ {i : Nat} {p : List Str}, p ∈ runP (tgS g) a i → isNameS (lastP p) = true := fun hp => by
    cases run_reach (List.mem_map_of_mem hp) with
    | refl => exact na
    | step _ m => exact nd.ok.un _ (hT _ _ m)
  show tCut _ _ _ [some (.ref x), some (.str a), some (.ref f), some (.ref dr), some (.ref la), none, none, none] H3
  refine q_cut (M := fun σ H' => ∃ la rs y5 y6 y7, σ = [some (.ref x), some (.str a), some (.ref f), some (.ref dr), some (.ref la), y5, y6, y7] ∧ Bf H H' f dr la rs [] (runP (tgS g) a rs.length)) ?_ ?_
  rotate_left
  · rintro σ H4 ⟨la4, rs, y5, y6, y7, rfl, b⟩
    have pa := b.pa
    rw [List.append_nil] at pa
    have ie := run_is (a := a) hT nd.ok.uf (i := rs.length) (by rw [← pa.len]; exact Nat.le_refl _)
    rw [ie] at pa
    exact ⟨.ref f, rfl, q f rs H4 b.zf b.fr b.hf pa fun r hr => ⟨(b.nr r (List.mem_append_left _ hr)).1, (b.nr r (List.mem_append_left _ hr)).2.2⟩⟩
  refine s_while (fun m σ H' => ∃ la rs ns y5 y6 y7, σ = [some (.ref x), some (.str a), some (.ref f), some (.ref dr), some (.ref la), y5, y6, y7] ∧ Bf H H' f dr la rs ns (runP (tgS g) a rs.length) ∧ m + rs.length = 64) 64 ⟨la, [], [r0], none, none, none, rfl, B0, rfl⟩ ?_
  rintro m σ H4 ⟨la4, rs, ns, y5, y6, y7, rfl, b, hm⟩
  refine ⟨decide ((0 : Int) < ((ns.map V.ref).length : Int)), et_test (ev_op (ev_cb (ea_cons (ev_var rfl) ea_nil) (rc_lenL (sq_of b.hl))) ev_c rv_I0), fun hb H5 e5 => ?_, fun hb H5 e5 => ?_⟩
  rotate_left
  · have hb' := of_decide_eq_false hb
    rw [List.length_map] at hb'
    have n0 : ns = [] := List.length_eq_zero_iff.mp (by omega)
    subst n0
    exact ⟨la4, rs, y5, y6, y7, rfl, b.ex e5⟩
  have hb' := of_decide_eq_true hb
  rw [List.length_map] at hb'
  have b5 := b.ex e5
  have qn : (rs ++ ns).length = (runP (tgS g) a rs.length).length := b.pa.len
  have lrn : (rs ++ ns).length = rs.length + ns.length := List.length_append
  have q63 := few rs.length
  refine ⟨fun σ' H' => ∃ la' ns' y5 y6 y7, σ' = [some (.ref x), some (.str a), some (.ref f), some (.ref dr), some (.ref la'), y5, y6, y7] ∧ Bf H H' f dr la' (rs ++ ns) ns' (runP (tgS g) a (rs ++ ns).length), fun σ2 H2 ⟨la', ns', y5, y6, y7, e1, b2⟩ => ⟨64 - (rs ++ ns).length, by omega, la', rs ++ ns, ns', y5, y6, y7, e1, b2, by omega⟩, ?_⟩
  refine ⟨.ref f, rfl, .ref la4, rfl, f, la4, rs.map V.ref, ns.map V.ref, rfl, rfl, b5.hf, b5.hl, by rw [List.length_map, List.length_map, sizeLine_eq]; omega, ?_⟩
  refine ⟨by show 0 ≤ sizeLine; decide, fun lg zg => ?_⟩
  have mp : rs.map V.ref ++ ns.map V.ref = (rs ++ ns).map V.ref := by rw [List.map_append]
  rw [mp] at zg ⊢
  have kp : ∀ {c : Addr} {o : HO}, c ≠ f → H5 c = some o → (upd (upd H5 f (.lst ((rs ++ ns).map V.ref))) lg (.lst [])) c = some o := fun {c o} n h => by
    have h' : (upd H5 f (.lst ((rs ++ ns).map V.ref))) c = some o := by rw [upd_ne n]; exact h
    rw [upd_ne (ne_of_none h' zg)]
    exact h'
  have ngf : f ≠ lg := ne_of_none (upd_same (H := H5)) zg
  have b6 : Bf H (upd (upd H5 f (.lst ((rs ++ ns).map V.ref))) lg (.lst [])) f dr lg (rs ++ ns) [] (runP (tgS g) a rs.length) := by
    refine ⟨fun c o hc => kp (ne_of_none hc b.zf) (b5.fr _ _ hc), by rw [upd_ne ngf, upd_same], kp b5.fd.symm b5.hd, upd_same, ?_, b.zf, b.zd, ?_, ngf, fun r hr => ?_⟩
    · rw [List.append_nil]
      exact b5.pa.keep fun r hr o ho => kp (b5.nr r hr).1 ho
    · cases hh : H lg with
      | none => rfl
      | some o =>
        have h' : (upd H5 f (.lst ((rs ++ ns).map V.ref))) lg = some o := by rw [upd_ne ngf.symm]; exact b5.fr _ _ hh
        rw [h'] at zg
        cases zg
    · rw [List.append_nil] at hr
      obtain ⟨h1, h2, h3⟩ := b5.nr r hr
      obtain ⟨k', hk', e'⟩ := List.mem_iff_getElem.mp hr
      have hk2 : k' < (runP (tgS g) a rs.length).length := by rw [← qn]; exact hk'
      have z := b5.pa.at_ k' r _ (by rw [List.getElem?_eq_getElem hk', e']) (List.getElem?_eq_getElem hk2)
      exact ⟨h1, ne_of_none (show (upd H5 f (.lst ((rs ++ ns).map V.ref))) r = _ by rw [upd_ne h1]; exact z) zg, h3⟩
  have hla6 := kp b5.nfl.symm b5.hl
  have nlg : la4 ≠ lg := ne_of_none (show (upd H5 f (.lst ((rs ++ ns).map V.ref))) la4 = _ by rw [upd_ne b5.nfl.symm]; exact b5.hl) zg
  generalize (upd (upd H5 f (.lst ((rs ++ ns).map V.ref))) lg (.lst [])) = H6 at b6 hla6
  show tCut _ _ _ [some (.ref x), some (.str a), some (.ref f), some (.ref dr), some (.ref la4), some (.ref lg), y6, y7] H6
  refine q_cut (M := fun σ H' => ∃ ns' y6 y7, σ = [some (.ref x), some (.str a), some (.ref f), some (.ref dr), some (.ref la4), some (.ref lg), y6, y7] ∧ Bf H H' f dr lg (rs ++ ns) ns' (runP (tgS g) a (rs ++ ns).length)) ?_ ?_
  rotate_left
  · rintro σ H7 ⟨ns', y6, y7, rfl, b7⟩
    exact ⟨.ref lg, rfl, lg, ns', _, _, _, rfl, b7⟩
  refine s_forL (a := la4) (xs := ns.map V.ref) (ev_var rfl) (sq_of hla6) (fun j σ' H' => ∃ ns' y6 y7, σ' = [some (.ref x), some (.str a), some (.ref f), some (.ref dr), some (.ref la4), some (.ref lg), y6, y7] ∧ Bf H H' f dr lg (rs ++ ns) ns' (runP (tgS g) a (rs.length + j)) ∧ H' la4 = some (.lst (ns.map V.ref)))
    (fun H7 e7 => ⟨[], y6, y7, rfl, b6.ex e7, e7 _ _ hla6⟩) (fun i σ' H' _ ⟨_, _, _, _, _, z⟩ => sq_of z) ?_ ?_
  rotate_left
  · rintro σ' H7 ⟨ns', y6, y7, rfl, b7, _⟩
    rw [List.length_map] at b7
    rw [← lrn] at b7
    exact ⟨ns', y6, y7, rfl, b7⟩
  rintro j v σ' H7 hj ⟨ns', y6', y7', rfl, b7, hla7⟩
  rw [List.getElem?_map] at hj
  obtain ⟨r, hr', rfl⟩ : ∃ r, ns[j]? = some r ∧ V.ref r = v := by
    cases hh : ns[j]? with
    | none => rw [hh] at hj; cases hj
    | some r => rw [hh] at hj; exact ⟨r, rfl, Option.some.inj hj⟩
  have jl : j < ns.length := by
    by_cases h : j < ns.length
    · exact h
    · rw [List.getElem?_eq_none (by omega)] at hr'; cases hr'
  have rat : ((rs ++ ns) ++ ns')[rs.length + j]? = some r := by
    rw [List.getElem?_append_left (by omega), List.getElem?_append_right (by omega), Nat.add_sub_cancel_left]
    exact hr'
  have q7 : rs.length + j < (runP (tgS g) a (rs.length + j)).length := by
    rw [← b7.pa.len, List.length_append]
    omega
  obtain ⟨p, hp⟩ : ∃ p, (runP (tgS g) a (rs.length + j))[rs.length + j]? = some p := ⟨_, List.getElem?_eq_getElem q7⟩
  have hr7 := b7.pa.at_ _ r p rat hp
  have pm := List.mem_of_getElem? hp
  have pne := run_ne pm
  have pna := nm pm
  have plen : p.length ≤ 64 := by
    have := run_len pm
    have := few (rs.length + j)
    omega
  have rmem : r ∈ (rs ++ ns) ++ ns' := List.mem_of_getElem? rat
  have nd7 := nd.ex b7.fr
  show tFor _ _ _ _ [some (.ref x), some (.str a), some (.ref f), some (.ref dr), some (.ref la4), some (.ref lg), some (.ref r), y7'] H7
  have il : Ev (tOp (rIxL K) (tVar 6) (tUn (rU fun i => V.int (-i)) (tC (V.int 1)))) [some (.ref x), some (.str a), some (.ref f), some (.ref dr), some (.ref la4), some (.ref lg), some (.ref r), y7'] H7 (.str (lastP p)) :=
    ev_op (ev_var rfl) (ev_un (z := .int (-1)) ev_c fun H1 e1 Q q => ⟨1, rfl, q H1 (Ex.refl H1)⟩) (rv_ixL (sq_of hr7) (by
      have := atI_last (p.dropLast.map V.str) (V.str (lastP p))
      have e : p.dropLast.map V.str ++ [V.str (lastP p)] = p.map V.str := by
        have := congrArg (List.map V.str) (lastP_split pne)
        rw [List.map_append] at this
        exact this
      rw [e] at this
      exact this))
  have tg : EvL (tMeth C "targets" (spTargets C) [] E0 (tVar 0) (tCons (tOp (rIxL K) (tVar 6) (tUn (rU fun i => V.int (-i)) (tC (V.int 1)))) tNil)) [some (.ref x), some (.str a), some (.ref f), some (.ref dr), some (.ref la4), some (.ref lg), some (.ref r), y7'] H7 ((tgS g (lastP p)).map V.str) := el_meth (ev_var rfl) nd7.ob rfl (ea_cons il ea_nil) (spl_targets nd7 (.str (lastP p)) (sm_name pna))
  refine s_forNL tg (fun l0 k' σ' H' => ∃ ns' y7, σ' = [some (.ref x), some (.str a), some (.ref f), some (.ref dr), some (.ref la4), some (.ref lg), some (.ref r), y7] ∧ Bf H H' f dr lg (rs ++ ns) ns' (ext ((tgS g (lastP p)).take k') p (runP (tgS g) a (rs.length + j))) ∧ H' la4 = some (.lst (ns.map V.ref)) ∧ H' l0 = some (.lst ((tgS g (lastP p)).map V.str)) ∧ H' r = some (.lst (p.map V.str)) ∧ l0 ≠ lg ∧ la4 ≠ lg ∧ r ≠ lg)
    (fun l0 H8 z8 e8 h8 => ⟨ns', y7', rfl, b7.ex e8, e8 _ _ hla7, h8, e8 _ _ hr7, (ne_of_none b7.hl z8).symm, nlg, (b7.nr r rmem).2.1⟩) (fun l0 i σ' H' _ ⟨_, _, _, _, _, z, _⟩ => sq_of z) ?_ ?_
  rotate_left
  · rintro l0 σ' H8 ⟨ns8, y7, rfl, b8, hla8, _⟩
    rw [List.length_map, List.take_length, ← run_some hp] at b8
    exact ⟨ns8, _, y7, rfl, b8, hla8⟩
  rintro l0 k' tv σ' H8 hk ⟨ns8, y7, rfl, b8, hla8, hl0, hr8, n1, n2, n3⟩
  rw [List.getElem?_map] at hk
  obtain ⟨t, ht, rfl⟩ : ∃ t, (tgS g (lastP p))[k']? = some t ∧ V.str t = tv := by
    cases hh : (tgS g (lastP p))[k']? with
    | none => rw [hh] at hk; cases hk
    | some r => rw [hh] at hk; exact ⟨r, rfl, Option.some.inj hk⟩
  show tIfS _ _ _ _ [some (.ref x), some (.str a), some (.ref f), some (.ref dr), some (.ref la4), some (.ref lg), some (.ref r), some (.str t)] H8
  refine ⟨.str t, rfl, .ref dr, rfl, dr, _, rfl, DGet.k (k := Sum.inr t) b8.hd, _, rfl, ?_⟩
  rw [kT_val]
  have ek := ext_take (p := p) (q := runP (tgS g) a (rs.length + j)) ht
  generalize eQ : ext ((tgS g (lastP p)).take k') p (runP (tgS g) a (rs.length + j)) = q8 at b8 ek ⊢
  have nod : ∀ {c : Addr} {ys : List V}, H8 c = some (.lst ys) → c ≠ dr := fun h e => by rw [e, b8.hd] at h; cases h
  by_cases mem : t ∈ lasts q8
  · rw [decide_eq_true mem]
    refine ⟨ns8, _, rfl, ?_, hla8, hl0, hr8, n1, n2, n3⟩
    rw [ek]
    unfold ext1
    rw [if_pos mem]
    exact b8
  · rw [decide_eq_false mem]
    have lq8 : (lasts q8).length ≤ 63 := by
      have : (lasts q8).length ≤ (a :: U).length := nodup_len (by rw [← eQ]; exact ext_nd (run_nd _)) fun b hb => by
        rw [← eQ] at hb
        obtain ⟨z, hz, rfl⟩ := List.mem_map.mp hb
        rcases ext_mem hz with hz | ⟨u, hu', rfl⟩
        · cases run_reach (List.mem_map_of_mem hz) with
          | refl => exact List.mem_cons_self
          | step _ m => exact List.mem_cons_of_mem _ (hT _ _ m)
        · rw [lastP_app]
          exact List.mem_cons_of_mem _ (hT _ _ (List.mem_of_mem_take hu'))
      have uf := nd.ok.uf
      rw [List.length_cons] at this
      omega
    refine ⟨.ref dr, rfl, .str t, rfl, dr, _, rfl, DPut.k (k := Sum.inr t) b8.hd (by rw [List.length_map, sizeLine_eq]; omega), ?_⟩
    rw [kT_put mem]
    have k9 : ∀ {c : Addr} {ys : List V}, H8 c = some (.lst ys) → (upd H8 dr (.dK ((lasts q8 ++ [t]).map kT))) c = some (.lst ys) := fun h => by rw [upd_ne (nod h)]; exact h
    refine ⟨.ref lg, rfl, .inl ⟨rfl, _, sq_of (k9 b8.hl)⟩, .ref r, rfl, .str t, rfl, by show 1 ≤ sizeLine; decide, fun M zM => ?_⟩
    have eM := Ex.new (o := .lst [.str t]) zM
    refine ⟨r, M, p.map V.str, [.str t], rfl, rfl, eM _ _ (k9 hr8), upd_same, by rw [List.length_map, sizeLine_eq]; show p.length + 1 ≤ _; omega, fun Z zZ => ?_⟩
    have eZ := Ex.new (o := .lst (p.map V.str ++ [.str t])) zZ
    have nsl : ns8.length ≤ 63 := by
      have l8 := b8.pa.len
      unfold lasts at lq8
      rw [List.length_map] at lq8
      rw [List.length_append] at l8
      omega
    refine ⟨lg, ns8.map V.ref, .ref Z, rfl, rfl, eZ _ _ (eM _ _ (k9 b8.hl)), sz_lt (by rw [List.length_map]; omega), ?_⟩
    have b9 := b8.push (p := p) (t := t) (Z := Z) rfl (eM.trans eZ) (fresh_back eM zZ) (by rw [upd_same, List.map_append]; rfl)
    have mz : (ns8 ++ [Z]).map V.ref = ns8.map V.ref ++ [.ref Z] := by rw [List.map_append]; rfl
    rw [mz] at b9
    have k10 : ∀ {c : Addr} {ys : List V}, c ≠ lg → H8 c = some (.lst ys) → (upd (upd (upd (upd H8 dr (.dK ((lasts q8 ++ [t]).map kT))) M (.lst [.str t])) Z (.lst (p.map V.str ++ [.str t]))) lg (.lst (ns8.map V.ref ++ [.ref Z]))) c = some (.lst ys) := fun n h => by rw [upd_ne n]; exact eZ _ _ (eM _ _ (k9 h))
    refine ⟨ns8 ++ [Z], _, rfl, ?_, k10 n2 hla8, k10 n1 hl0, k10 n3 hr8, n1, n2, n3⟩
    rw [ek]
    unfold ext1
    rw [if_neg mem]
    exact b9
end
end Cr
/-! graphs of needs: closures, who depends on whom -/
namespace Cr
open PySem PySem.Spec PyProof.Rows L2 Evl
abbrev sNClo : Stmt := inClass (topS 11) 15
abbrev sNDep : Stmt := inClass (topS 11) 14
theorem scNClo : FnScope ["self", "name", "path"] ["self", "name"] (defScope sNClo) := ⟨rfl, rfl, rfl, by decide +kernel, rfl, by decide +kernel, by decide +kernel⟩
theorem scNDep : FnScope ["self", "one", "other"] ["self", "one", "other"] (defScope sNDep) := ⟨rfl, rfl, rfl, by decide +kernel, rfl, by decide +kernel, by decide +kernel⟩
/-- all that a name needs, in order -/
def cloS (g : List Row) (a : Str) : List Str := srtS (lasts (pathsP (tgS g) a))
theorem mem_clo {U : List Str} {g : List Row} {a b : Str} (h : GOk U g) : b ∈ cloS g a ↔ Reach (tgS g) a b := by
  unfold cloS
  rw [(srtS_perm _).mem_iff]
  exact paths_done (fun s t m => (h.tgU m).2) h.uf
def spClo (C CN : Addr) (n : Nat) : Sp := fun vs H Q E => ∃ x v d A U g, vs = [.ref x, v] ∧ NdAt C H x A U g ∧ Dt H v d ∧ sm d = true ∧ cpyTo n d ∧ (isName d = false → ∀ dx H', Rsd1 H H' dx "value" d → E (.ref CN) (some dx) H') ∧
  (∀ a, d = .str a → isNameS a = true → ∀ l H', H l = none → Ex H H' → H' l = some (.lst ((cloS g a).map V.str)) → Q (.ref l) H')
def spDep (C CN : Addr) (n : Nat) : Sp := fun vs H Q E => ∃ x v u d e A U g, vs = [.ref x, v, u] ∧ NdAt C H x A U g ∧ Dt H v d ∧ Dt H u e ∧ sm d = true ∧ sm e = true ∧ cpyTo n d ∧ cpyTo n e ∧
  (isName d = false → ∀ dx H', Rsd1 H H' dx "value" d → E (.ref CN) (some dx) H') ∧ (isName d = true → isName e = false → ∀ dx H', Rsd1 H H' dx "value" e → E (.ref CN) (some dx) H') ∧
  (∀ a b, d = .str a → e = .str b → isNameS a = true → isNameS b = true → ∀ H', Ex H H' → Q (.bl (decide (b ∈ cloS g a))) H')
theorem name_str {d : PyData} (h : isName d = true) : ∃ a, d = .str a ∧ isNameS a = true := by
  cases d with
  | str a => exact ⟨a, rfl, h⟩
  | _ => exact nomatch h
section
variable {P : Program} {w : World} {K : PySem.W.Frag} {mg : Str → Option Value} {base : Heap}
theorem ok_clo {f C CN : Addr} {fd : FuncData} {k n : Nat} (F : Fun K "closure" "Needs.closure" sNClo f fd) (B : Blt mg) (T : NdC K mg C) (h0 : HasE P w K mg base k "check_name" ["value"] (spCheckN CN n)) (h1 : HasM P w K mg base CX0 k C "shortest_paths" ["self", "name"] (spShort C)) : FnOk P w K mg base (L2.CX P w) (k + 1) f fd ["self", "name"] (spClo C CN n) := by
  obtain ⟨f0, d0, G0, b0, k0, g0⟩ := h0.ex
  obtain ⟨f1, d1, G1, b1, m1⟩ := h1.ex
  refine F.okX scNClo (fun vs H Q E h => by obtain ⟨_, _, _, _, _, _, rfl, _⟩ := h; rfl) (fun cdv A outer s H vs Q E hr h => ?_)
  obtain ⟨x, v, d, A', U, g, rfl, nd, hd, hs, hc, qe, q⟩ := h
  refine ⟨_, pss_cons (ps_expr (pe_call (E := E) G0 hr (by rfl) g0 k0 b0 .nil (passes_call (takes_of rfl rfl rfl rfl) fun _ _ _ _ h => h) (pa_cons (pv 1) pa_nil)))
    (pss_one (ps_ret (pe_callB cr_sortedS (by rfl) B.sorted bSorted (pa_cons (pe_lc (own := [("path", 2)]) (g := gName 2) (tt := tYes) (te := tOp (rIxL K) (tVar 2) (tUn (rU fun i => V.int (-i)) (tC (V.int 1)))) rfl scNClo.nd (pi_list (pe_meth (E := E0) (pv 0) T.cl m1 G1 hr b1 .nil pass0 (pa_cons (pv 1) pa_nil))) (blkOk_by (own := [("path", 2)]) (N := ["self", "name", "path"]) (sc := defScope sNClo) (by decide +kernel))
      (fun _ _ _ _ _ => pg_name (i := 2) scNClo.nd rfl (Or.inl rfl)) (fun _ _ _ _ _ => pts_nil) (fun _ _ _ _ _ => by exact pe_ix ix_list (pv 2) (pe_un un_neg pe_int) (fun _ _ => rfl))) pa_nil)))), ?_⟩
  refine ⟨v, rfl, v, d, rfl, hd, hs, hc, fun n1 H1 e1 => ?_, qe⟩
  obtain ⟨a, rfl, na⟩ := name_str n1
  cases hd with
  | str =>
  have nd1 := nd.ex e1
  have hT : ∀ s t, t ∈ tgS g s → t ∈ U := fun s t m => (nd.ok.tgU m).2
  refine ⟨.ref x, rfl, x, A'.dx, _, rfl, nd1.ob, rfl, .str a, rfl, x, a, A', U, g, rfl, nd1, na, fun l rs H2 zl e2 hl pa nr => ?_⟩
  have few : (pathsP (tgS g) a).length ≤ 63 := run_few hT nd.ok.uf 64
  have pne0 : ∀ p ∈ pathsP (tgS g) a, p ≠ [] := fun p hp => run_ne hp
  unfold cloS at q
  have q' := q a rfl na
  clear q
  generalize pathsP (tgS g) a = PP at few pne0 q' pa
  have lr := pa.len
  have lc := el_lcL (K := K) (te := tOp (rIxL K) (tVar 2) (tUn (rU fun i => V.int (-i)) (tC (V.int 1)))) (t := tYes) (j := 2) (vs := [2]) (σ := [some (.ref x), some (.str a), none]) (H := H2) (fun _ => true) (fun i => .str ((lasts PP).getD i "")) (ev_c (v := .ref l)) (sq_of hl) (by rw [List.length_map]; omega) (fun _ => rfl)
    (fun i y H3 e3 hy => fun H4 _ Q q => q H4 (Ex.refl H4))
    (fun i y H3 e3 hy _ => by
      rw [List.getElem?_map] at hy
      obtain ⟨r, hr', rfl⟩ : ∃ r, rs[i]? = some r ∧ V.ref r = y := by
        cases hh : rs[i]? with
        | none => rw [hh] at hy; cases hy
        | some r => rw [hh] at hy; exact ⟨r, rfl, Option.some.inj hy⟩
      have il : i < PP.length := by
        rw [← lr]
        exact (List.getElem?_eq_some_iff.mp hr').1
      have hp := List.getElem?_eq_getElem il
      have hr2 := e3 _ _ (pa.at_ i r _ hr' hp)
      have pne : PP[i] ≠ [] := pne0 _ (List.getElem_mem il)
      have eg : (lasts PP).getD i "" = lastP PP[i] := by
        unfold lasts
        rw [List.getD_eq_getElem?_getD, List.getElem?_map, hp]
        rfl
      rw [eg]
      generalize PP[i] = p at hr2 pne
      exact ev_op (ev_var rfl) (ev_un (z := .int (-1)) ev_c fun H1 e1 Q q => ⟨1, rfl, q H1 (Ex.refl H1)⟩) (rv_ixL (sq_of hr2) (by
        have := atI_last (p.dropLast.map V.str) (V.str (lastP p))
        have e : p.dropLast.map V.str ++ [V.str (lastP p)] = p.map V.str := by
          have := congrArg (List.map V.str) (lastP_split pne)
          rw [List.map_append] at this
          exact this
        rw [e] at this
        exact this)))
  have eg : given (rs.map V.ref).length (fun _ => true) (fun i => V.str ((lasts PP).getD i "")) = (lasts PP).map V.str := by
    have ll : (rs.map V.ref).length = (lasts PP).length := by unfold lasts; rw [List.length_map, List.length_map]; exact lr
    rw [ll, given_all]
    refine List.ext_getElem? fun i => ?_
    rw [List.getElem?_map, List.getElem?_map]
    by_cases hi : i < (lasts PP).length
    · rw [List.getElem?_range hi, List.getElem?_eq_getElem hi]
      show some (V.str ((lasts PP).getD i "")) = _
      rw [List.getD_eq_getElem?_getD, List.getElem?_eq_getElem hi]
      rfl
    · rw [List.getElem?_eq_none (by rw [List.length_range]; omega), List.getElem?_eq_none (by omega)]
      rfl
  rw [eg] at lc
  refine lc H2 (Ex.refl H2) (fun v H' => rSortedS K [v] H' Q) fun L H3 zL e3 hL => ?_
  have l63 : (lasts PP).length < 64 := by unfold lasts; rw [List.length_map]; omega
  refine ⟨L, lasts PP, rfl, sq_of hL, l63, fun ys p hp hso zp => ?_⟩
  rw [sorted_is hp hso]
  exact q' p _ (fresh_back ((e1.trans e2).trans e3) zp) (((e1.trans e2).trans e3).trans (Ex.new zp)) upd_same
theorem ok_dep {f C CN : Addr} {fd : FuncData} {k n : Nat} (F : Fun K "depends" "Needs.depends" sNDep f fd) (B : Blt mg) (T : NdC K mg C) (h0 : HasE P w K mg base k "check_name" ["value"] (spCheckN CN n)) (h1 : HasM P w K mg base (L2.CX P w) k C "closure" ["self", "name"] (spClo C CN n)) : FnOk P w K mg base (L2.CX P w) (k + 1) f fd ["self", "one", "other"] (spDep C CN n) := by
  obtain ⟨f0, d0, G0, b0, k0, g0⟩ := h0.ex
  obtain ⟨f1, d1, G1, b1, m1⟩ := h1.ex
  refine F.okX scNDep (fun vs H Q E h => by obtain ⟨_, _, _, _, _, _, _, _, rfl, _⟩ := h; rfl) (fun cdv A outer s H vs Q E hr h => ?_)
  obtain ⟨x, v, u, d, e, A', U, g, rfl, nd, hd, he, hs, hs2, hc, hc2, q1, q2, q3⟩ := h
  refine ⟨_, pss_cons (ps_expr (pe_call (E := E) G0 hr (by rfl) g0 k0 b0 .nil (passes_call (takes_of rfl rfl rfl rfl) fun _ _ _ _ h => h) (pa_cons (pv 1) pa_nil)))
    (pss_cons (ps_expr (pe_call (E := E) G0 hr (by rfl) g0 k0 b0 .nil (passes_call (takes_of rfl rfl rfl rfl) fun _ _ _ _ h => h) (pa_cons (pv 2) pa_nil)))
    (pss_one (ps_ret (pe_cmpR op_in_seq (pv 2) (pe_meth (E := E) (pv 0) T.cl m1 G1 hr b1 .nil (passes_call (takes_of rfl rfl rfl rfl) fun _ _ _ _ h => h) (pa_cons (pv 1) pa_nil)) (by rfl))))), ?_⟩
  refine ⟨v, rfl, v, d, rfl, hd, hs, hc, fun n1 H1 e1 => ?_, q1⟩
  refine ⟨u, rfl, u, e, rfl, Dt.ex e1 he, hs2, hc2, fun n2 H2 e2 => ?_, fun n2 dx H' r => q2 n1 n2 dx H' (r.back e1)⟩
  obtain ⟨a, rfl, na⟩ := name_str n1
  obtain ⟨b, rfl, nb⟩ := name_str n2
  cases hd with
  | str =>
  cases he with
  | str =>
  have e12 := e1.trans e2
  have nd2 := nd.ex e12
  refine ⟨.str b, rfl, .ref x, rfl, x, A'.dx, _, rfl, nd2.ob, rfl, .str a, rfl, x, .str a, .str a, A', U, g, rfl, nd2, .str a, hs, hc, fun z => (by rw [n1] at z; cases z), fun a' ea _ l H3 zl e3 hl => ?_⟩
  cases ea
  refine rv_isL (sq_of hl) rfl (flat_strs _) H3 (Ex.refl H3) _ fun H4 e4 => ?_
  have ei : inV (.str b) ((cloS g a).map V.str) = decide (b ∈ cloS g a) := (Bool.eq_iff_iff).mpr (inV_mem.trans (decide_eq_true_iff (p := b ∈ cloS g a)).symm)
  have := q3 a b rfl rfl na nb H4 ((e12.trans e3).trans e4)
  rw [← ei] at this
  exact this
end
end Cr
/-! names and pairs of names can be laid out -/
namespace Cr
open PySem PySem.Spec PyProof.Rows L2 Evl
theorem nm_sok {x : Str} (h : isNameS x = true) : PyData.strOk x = true := by
  unfold isNameS at h
  simp only [Bool.and_eq_true, decide_eq_true_eq] at h
  unfold PyData.strOk
  rw [Array.all_eq_true_iff_forall_mem]
  intro c hc
  have y := List.all_eq_true.mp h.2 c (by simpa using hc)
  unfold isLow at y
  simp only [Bool.and_eq_true, decide_eq_true_eq] at y
  exact decide_eq_true (by omega)
theorem pr_lay {p : Pr} (h1 : isNameS p.1 = true) (h2 : isNameS p.2 = true) : (pD p).canLay0 = true := by
  unfold pD
  rw [PyData.canLay0, PyData.canLayAll0, PyData.canLayAll0, PyData.canLayAll0, PyData.canLay0, PyData.canLay0, nm_sok h1, nm_sok h2]
  rfl
theorem prs_lay : ∀ {ps : List Pr}, (∀ p ∈ ps, isNameS p.1 = true ∧ isNameS p.2 = true) → PyData.canLayAll0 (ps.map pD) = true
  | [], _ => rfl
  | p :: r, h => by
    rw [List.map_cons, PyData.canLayAll0, pr_lay (h p List.mem_cons_self).1 (h p List.mem_cons_self).2, prs_lay fun x hx => h x (List.mem_cons_of_mem _ hx)]
    rfl
theorem prs_depth : ∀ ps : List Pr, PyData.depthAll (ps.map pD) ≤ 1
  | [] => Nat.zero_le _
  | p :: r => by rw [List.map_cons, PyData.depthAll]; exact Nat.max_le.mpr ⟨Nat.le_refl _, prs_depth r⟩
theorem prs_shaped {ps : List Pr} (h : ∀ p ∈ ps, isNameS p.1 = true ∧ isNameS p.2 = true) : SeqAt.shaped (.list (ps.map pD)) = true := by
  unfold SeqAt.shaped
  rw [PyData.canLay0, prs_lay h, PyData.depth]
  refine decide_eq_true ?_
  have := prs_depth ps
  omega
theorem lay_strs {xs : List Str} (h : ∀ x ∈ xs, isNameS x = true) : (PyData.list (xs.map PyData.str)).canLay0 = true ∧ (PyData.list (xs.map PyData.str)).depth ≤ 2 := by
  have go : ∀ xs : List Str, (∀ x ∈ xs, isNameS x = true) → PyData.canLayAll0 (xs.map PyData.str) = true ∧ PyData.depthAll (xs.map PyData.str) ≤ 1 := by
    intro xs
    induction xs with
    | nil => exact fun _ => ⟨rfl, Nat.zero_le _⟩
    | cons x r ih =>
      intro h
      obtain ⟨a, b⟩ := ih fun z hz => h z (List.mem_cons_of_mem _ hz)
      rw [List.map_cons, PyData.canLayAll0, PyData.depthAll, a, PyData.canLay0, nm_sok (h x List.mem_cons_self)]
      exact ⟨rfl, Nat.max_le.mpr ⟨Nat.zero_le _, b⟩⟩
  obtain ⟨a, b⟩ := go xs h
  rw [PyData.canLay0, PyData.depth]
  exact ⟨a, by omega⟩
end Cr
/-! expressions by the data that they give, further -/
namespace Cr
open PySem PySem.Spec PyProof.Rows L2 Evl
theorem evd_var {i : Nat} {σ : L2.St} {H : Hp} {v : V} {d : PyData} (h : σ[i]? = some (some v)) (hd : Dt H v d) : EvD (tVar i) σ H d := evd_of (ev_var h) hd
section
variable {K : PySem.W.Frag} {te ta tb : TE} {tA : TA} {σ : L2.St} {H : Hp} {d e : PyData} {ds : List PyData} {i j : Nat} {E : XK}
theorem evd_ofL {xs : List V} (h : EvL te σ H xs) (hd : ∀ H, DtAll H xs ds) : EvD te σ H (.list ds) := fun H1 e1 Q q => h H1 e1 _ fun p H2 z e2 hp => q (.ref p) H2 e2 (.lst hp (hd _))
theorem et_neD (h1 : EvD ta σ H d) (h2 : EvD tb σ H e) (s1 : SeqAt.shaped d = true) (s2 : SeqAt.shaped e = true) : EvT (tTest (tOp rNeDt ta tb)) σ H (!PyData.eqv d e) := fun H1 e1 Q q =>
  h1 H1 e1 _ fun v H2 e2 hv => h2 H2 (e1.trans e2) _ fun u H3 e3 hu => ⟨d, e, Dt.ex e3 hv, hu, s1, s2, _, rfl, q H3 (e2.trans e3)⟩
theorem ev_reprD (h : EvD te σ H d) (hf : Fits d) : Ev (tCB rRepr (tCons te tNil)) σ H (.str d.shown) := fun H1 e1 Q q => h H1 e1 _ fun v H2 e2 hv => ⟨v, d, rfl, hv, hf, q H2 e2⟩
end
/-! ### in a list of data -/
def rInLDt (neg : Bool) : R2 := fun x y H Q => ∃ d ds, Dt H x d ∧ Dt H y (.list ds) ∧ d.canLay0 = true ∧ PyData.canLayAll0 ds = true ∧ d.depth ≤ 5 ∧ Q (.bl (if neg = true then !ds.any fun z => PyData.eqv z d else ds.any fun z => PyData.eqv z d)) H
theorem op_inLDt {X : Cx} (hu : X.A.units + 64 < cLine) : OpR X (compareOp .In) (rInLDt false) := by
  intro pins s σ H x y v u Q I rx ry h
  obtain ⟨d, ds, hd, he, sd, se, dp, q⟩ := h
  obtain ⟨as, r1⟩ := (Dt.shown I hd rx).1
  obtain ⟨bs, r2⟩ := (Dt.shown I he ry).1
  exact SeqAt.in_list_reads r2 r1 se sd (by have := Nat.min_le_right (PyData.depthAll ds) d.depth; omega) ⟨.bl _, H, I, rfl, q⟩
theorem eqv_pD (p q : Pr) : PyData.eqv (pD p) (pD q) = decide (p = q) := by
  unfold pD
  rw [PyData.eqv, PyData.eqvAll, PyData.eqvAll, PyData.eqvAll, PyData.eqv, PyData.eqv]
  obtain ⟨a, b⟩ := p
  obtain ⟨c, d⟩ := q
  show (decide (a = c) && (decide (b = d) && true)) = decide ((a, b) = (c, d))
  rw [Bool.and_true, ← Bool.decide_and]
  exact decide_eq_decide.mpr ⟨fun ⟨h1, h2⟩ => by rw [h1, h2], fun h => ⟨congrArg Prod.fst h, congrArg Prod.snd h⟩⟩
theorem any_pD (ps : List Pr) (q : Pr) : ((ps.map pD).any fun z => PyData.eqv z (pD q)) = decide (q ∈ ps) := by
  rw [List.any_map]
  refine (Bool.eq_iff_iff).mpr ?_
  rw [List.any_eq_true, decide_eq_true_iff]
  constructor
  · rintro ⟨x, hx, e⟩
    have e' : PyData.eqv (pD x) (pD q) = true := e
    rw [eqv_pD] at e'
    exact of_decide_eq_true e' ▸ hx
  · exact fun h => ⟨q, h, by show PyData.eqv (pD q) (pD q) = true; rw [eqv_pD]; exact decide_eq_true rfl⟩
/-! ### a list of pairs made in a comprehension -/
theorem dt_str {H : Hp} {v : V} {x : Str} (h : Dt H v (.str x)) : v = .str x := by cases h; rfl
/-! ### a list that is new -/
def EvDF (te : TE) (σ : L2.St) (H : Hp) (d : PyData) : Prop := ∀ H1, Ex H H1 → ∀ Q : VK, (∀ p H2, H1 p = none → Ex H1 H2 → Dt H2 (.ref p) d → Q (.ref p) H2) → te σ H1 Q
theorem EvDF.d {te : TE} {σ : L2.St} {H : Hp} {d : PyData} (h : EvDF te σ H d) : EvD te σ H d := fun H1 e Q q => h H1 e Q fun p H2 _ e2 hd => q (.ref p) H2 e2 hd
theorem evdf_cat {σ : L2.St} {H : Hp} {t1 t2 : TE} {ds es : List PyData} (h1 : EvD t1 σ H (.list ds)) (h2 : EvD t2 σ H (.list es)) (hl : ds.length + es.length ≤ 100000) : EvDF (tOp rCat t1 t2) σ H (.list (ds ++ es)) := fun H1 e Q q =>
  h1 H1 e _ fun v H2 e2 hv => h2 H2 (e.trans e2) _ fun u H3 e3 hu => by
    obtain ⟨a, xs, rfl, ha, hx⟩ := dt_lst (Dt.ex e3 hv)
    obtain ⟨b, ys, rfl, hb, hy⟩ := dt_lst hu
    exact ⟨a, b, xs, ys, rfl, rfl, ha, hb, Nat.le_trans (by rw [dtAll_len hx, dtAll_len hy]; exact hl) (by decide), fun p hp => q p _ (fresh_back (e2.trans e3) hp) ((e2.trans e3).trans (Ex.new hp)) (.lst upd_same (DtAll.ex (Ex.new hp) (dtAll_app hx hy)))⟩
/-! ### a list filtered in a comprehension -/
theorem evdf_filter {K : PySem.W.Frag} {tl : TE} {tt : TT} {σ : L2.St} {H : Hp} {j : Nat} {a : Addr} {xs : List V} {ds : List PyData} (b : PyData → Bool) (hl : Ev tl σ H (.ref a)) (ha : H a = some (.lst xs)) (hx : DtAll H xs ds) (hz : xs.length ≤ 40000) (hj : ∀ x, wipe ((wipe σ [j]).set j (some x)) [j] = wipe σ [j]) (hjl : j < σ.length) (hwl : (wipe σ [j]).length = σ.length)
    (ht : ∀ x d H1, Ex H H1 → Dt H1 x d → d ∈ ds → EvT tt ((wipe σ [j]).set j (some x)) H1 (b d)) : EvDF (tLc (iList K tl) (gName j) tt (tVar j) [j]) σ H (.list (ds.filter b)) := fun H0 e Q q => by
  refine hl H0 e _ fun H1 e1 => ?_
  have e01 := e.trans e1
  have ha1 := e01 _ _ ha
  have hx1 := DtAll.ex e01 hx
  have len := dtAll_len hx
  refine ⟨a, rfl, ⟨_, sq_of ha1⟩, fun D hD => ?_⟩
  refine lc_it (walk_list (K := K) (a := a) (xs := xs)) (fun n H2 => ∃ acc, H2 D = some (.lst acc) ∧ DtAll (wo D H2) acc ((ds.take n).filter b) ∧ Ex H1 (wo D H2))
    ⟨[], upd_same, by rw [List.take_zero]; exact .nil, fun c o hb => by rw [wo_ne (ne_of_none hb hD), upd_ne (ne_of_none hb hD)]; exact hb⟩ (fun n H2 _ p => ?_) (fun n x H2 H3 hlt p y => ?_) (fun H2 p => ?_)
  · obtain ⟨_, _, _, ex2⟩ := p
    exact sq_of ((ex2.trans (wo_ex D H2)) _ _ ha1)
  · obtain ⟨acc, hacc, hdt, ex2⟩ := p
    obtain ⟨rfl, hy⟩ := y
    obtain ⟨d, hd, hxd⟩ := DtAll.get hx1 hy
    have low := ex2.trans (wo_ex D H3)
    have hnd : n < ds.length := by omega
    have htk : ds.take (n + 1) = ds.take n ++ [d] := by
      rw [List.take_succ_eq_append_getElem hnd]
      congr 2
      rw [List.getElem?_eq_getElem hnd] at hd
      exact Option.some.inj hd
    refine ⟨hj _, ?_⟩
    refine ht x d H3 (e01.trans low) (Dt.ex low hxd) (List.mem_of_getElem? hd) H3 (Ex.refl H3) _ fun H4 e4 => ?_
    have ex4 : Ex H1 (wo D H4) := fun c o hc => by
      have n1 : c ≠ D := ne_of_none hc hD
      rw [wo_ne n1]
      exact e4 _ _ (low _ _ hc)
    have dt4 : DtAll (wo D H4) acc ((ds.take n).filter b) := DtAll.ex (Ex.wo e4) hdt
    cases hb : b d with
    | true =>
      rw [if_pos rfl]
      have la := dtAll_len hdt
      have lf := List.length_filter_le b (ds.take n)
      rw [List.length_take] at lf
      refine ⟨x, by rw [List.getElem?_set_self (by rw [hwl]; exact hjl)], acc, e4 _ _ hacc, by rw [sizeLine_eq]; omega, acc ++ [x], upd_same, ?_, fun c o hc => by rw [wo_ne (ne_of_none hc hD), upd_ne (ne_of_none hc hD)]; exact e4 _ _ (low _ _ hc)⟩
      have exD : Ex (wo D H4) (wo D (upd H4 D (.lst (acc ++ [x])))) := fun c o hc => by
        obtain ⟨n1, hc⟩ := wo_some hc
        rw [wo_ne n1, upd_ne n1]
        exact hc
      rw [htk, List.filter_append, List.filter_cons_of_pos hb, List.filter_nil]
      exact dtAll_app (DtAll.ex exD dt4) (.cons (Dt.ex (ex4.trans exD) hxd) .nil)
    | false =>
      rw [if_neg Bool.false_ne_true]
      refine ⟨acc, e4 _ _ hacc, ?_, ex4⟩
      rw [htk, List.filter_append, List.filter_cons_of_neg (by rw [hb]; decide), List.filter_nil, List.append_nil]
      exact dt4
  · obtain ⟨acc, hacc, hdt, ex2⟩ := p
    rw [List.take_of_length_le (by omega)] at hdt
    exact q D H2 (fresh_back e1 hD) (e1.trans (ex2.trans (wo_ex D H2))) (.lst hacc (DtAll.ex (wo_ex D H2) hdt))
/-! ### lists and tuples stay -/
theorem dts_strs {H : Hp} : ∀ xs : List Str, DtAll H (xs.map V.str) (xs.map PyData.str)
  | [] => .nil
  | x :: r => .cons (.str x) (dts_strs r)
/-- a list of pairs is no list of ints -/
theorem pairs_wo {p : Addr} {H : Hp} {i j : Int} {v : V} {qs : List Pr} (hp : H p = some (.lst [.int i, .int j])) (h : Dt H v (.list (qs.map pD))) : Dt (wo p H) v (.list (qs.map pD)) := by
  obtain ⟨a, xs, rfl, ha, hx⟩ := dt_lst h
  have tups : ∀ {xs : List V} {qs : List Pr}, DtAll H xs (qs.map pD) → DtAll (wo p H) xs (qs.map pD) := by
    intro xs qs
    induction qs generalizing xs with
    | nil => intro h; cases h; exact .nil
    | cons q r ih =>
      intro h
      cases h with
      | cons h1 h2 =>
        refine .cons ?_ (ih h2)
        cases h1 with
        | tup h3 h4 =>
          cases h4 with
          | cons h5 h6 =>
          cases h6 with
          | cons h7 h8 =>
          cases h8
          cases h5
          cases h7
          exact .tup (by rw [wo_ne (fun e => by rw [e, hp] at h3; cases h3)]; exact h3) (.cons (.str _) (.cons (.str _) .nil))
  refine .lst ?_ (tups hx)
  rw [wo_ne (fun e => ?_)]
  · exact ha
  · rw [e, hp] at ha
    cases ha
    cases qs with
    | nil => cases hx
    | cons q r =>
      cases hx with
      | cons h1 _ => cases h1
end Cr
/-! what can be reached along pairs -/
namespace Cr
open PySem PySem.Spec PyProof.Rows L2 Evl
/-- the targets of a name, as the pairs stand -/
def tgP (ps : List Pr) (s : Str) : List Str := (ps.filter fun q => decide (q.1 = s)).map (·.2)
theorem mem_tgP {ps : List Pr} {s t : Str} : t ∈ tgP ps s ↔ (s, t) ∈ ps := by
  unfold tgP
  rw [List.mem_map]
  constructor
  · rintro ⟨q, hq, rfl⟩
    obtain ⟨h1, h2⟩ := List.mem_filter.mp hq
    rw [← of_decide_eq_true h2]
    exact h1
  · exact fun h => ⟨(s, t), List.mem_filter.mpr ⟨h, decide_eq_true rfl⟩, rfl⟩
theorem dtAll_at {H : Hp} {v : V} : ∀ {xs : List V} {ds : List PyData} {j : Nat}, DtAll H xs ds → xs[j]? = some v → ∃ d, ds[j]? = some d ∧ Dt H v d
  | _, _, 0, .cons a _, h => ⟨_, rfl, by cases h; exact a⟩
  | _, _, j + 1, .cons _ b, h => dtAll_at (j := j) b h
end Cr
/-! what a graph answers: lists and pairs -/
namespace Cr
open PySem PySem.Spec PyProof.Rows L2 Evl
/-! ### lists that a comprehension picks -/
theorem given_fm {α : Type} (l : List α) (d : α) (f : α → Bool) (v : α → V) : given l.length (fun i => f (l.getD i d)) (fun i => v (l.getD i d)) = (l.filter f).map v := by
  have e : (List.range l.length).map (fun i => l.getD i d) = l := by
    refine List.ext_getElem? fun i => ?_
    rw [List.getElem?_map]
    by_cases hi : i < l.length
    · rw [List.getElem?_range hi, List.getElem?_eq_getElem hi]
      show some (l.getD i d) = _
      rw [List.getD_eq_getElem?_getD, List.getElem?_eq_getElem hi]
      rfl
    · rw [List.getElem?_eq_none (by rw [List.length_range]; omega), List.getElem?_eq_none (by omega)]
      rfl
  have z : (((List.range l.length).map fun i => l.getD i d).filter f).map v = (l.filter f).map v := by rw [e]
  rw [List.filter_map, List.map_map] at z
  exact z
theorem getD_at {α : Type} {l : List α} {i : Nat} {d x : α} (h : l[i]? = some x) : l.getD i d = x := by
  rw [List.getD_eq_getElem?_getD, h]
  rfl
theorem el_sortS {K : PySem.W.Frag} {te : TE} {σ : L2.St} {H : Hp} {ss : List Str} (h : EvL te σ H (ss.map V.str)) (hl : ss.length < 64) : EvL (tCB (rSortedS K) (tCons te tNil)) σ H ((srtS ss).map V.str) := fun H1 e Q q =>
  h H1 e _ fun a H2 za e2 ha => ⟨a, ss, rfl, sq_of ha, hl, fun ys p hp hso zp => by
    rw [sorted_is hp hso]
    exact q p _ (fresh_back e2 zp) (e2.trans (Ex.new zp)) upd_same⟩
theorem strs_shaped {xs : List Str} (h : ∀ x ∈ xs, isNameS x = true) : SeqAt.shaped (.list (xs.map PyData.str)) = true := by
  obtain ⟨a, b⟩ := lay_strs h
  unfold SeqAt.shaped
  rw [a]
  refine decide_eq_true ?_
  omega
end Cr
/-! the search by levels over rising targets: its paths rise, and each is the least one to its end -/
namespace Cr
open PySem
theorem ltS_tri (x y : Str) : ltS x y ∨ x = y ∨ ltS y x := by
  by_cases e : x = y
  · exact .inr (.inl e)
  · have t := leS_total x y
    rw [Bool.or_eq_true] at t
    rcases t with t | t
    · exact .inl (leS_ltS t e)
    · exact .inr (.inr (leS_ltS t fun z => e z.symm))
/-- lists of texts in order -/
def ltL : List Str → List Str → Prop
  | [], [] => False
  | [], _ :: _ => True
  | _ :: _, [] => False
  | x :: xs, y :: ys => ltS x y ∨ (x = y ∧ ltL xs ys)
theorem ltL_irrefl : ∀ p : List Str, ¬ ltL p p
  | [] => fun h => h
  | x :: xs => fun h => by
    rcases h with h | h
    · exact ltS_irrefl x h
    · exact ltL_irrefl xs h.2
theorem ltL_trans : ∀ {p q r : List Str}, ltL p q → ltL q r → ltL p r
  | [], [], _, h, _ => h.elim
  | [], _ :: _, [], _, h => h.elim
  | [], _ :: _, _ :: _, _, _ => trivial
  | _ :: _, [], _, h, _ => h.elim
  | _ :: _, _ :: _, [], _, h => h.elim
  | x :: xs, y :: ys, z :: zs, h1, h2 => by
    rcases h1 with h1 | ⟨rfl, h1⟩
    · rcases h2 with h2 | ⟨rfl, h2⟩
      · exact .inl (ltS_trans h1 h2)
      · exact .inl h1
    · rcases h2 with h2 | ⟨rfl, h2⟩
      · exact .inl h2
      · exact .inr ⟨rfl, ltL_trans h1 h2⟩
theorem ltL_app : ∀ {p q : List Str} (u v : List Str), p.length = q.length → ltL p q → ltL (p ++ u) (q ++ v)
  | [], [], _, _, _, h => h.elim
  | [], _ :: _, _, _, e, _ => by cases e
  | _ :: _, [], _, _, e, _ => by cases e
  | x :: xs, y :: ys, u, v, e, h => by
    rcases h with h | ⟨h1, h⟩
    · exact .inl h
    · exact .inr ⟨h1, ltL_app u v (by simpa using e) h⟩
theorem ltL_last : ∀ {p : List Str} {t u : Str}, ltS t u → ltL (p ++ [t]) (p ++ [u])
  | [], _, _, h => .inl h
  | _ :: p, _, _, h => .inr ⟨rfl, ltL_last (p := p) h⟩
/-- the shorter first, equally long ones in order -/
def sl (p q : List Str) : Prop := p.length < q.length ∨ (p.length = q.length ∧ ltL p q)
theorem sl_irrefl (p : List Str) : ¬ sl p p := fun h => by
  rcases h with h | h
  · omega
  · exact ltL_irrefl p h.2
theorem sl_trans {p q r : List Str} (h1 : sl p q) (h2 : sl q r) : sl p r := by
  rcases h1 with h1 | ⟨e1, h1⟩
  · rcases h2 with h2 | ⟨e2, h2⟩
    · exact .inl (by omega)
    · exact .inl (by omega)
  · rcases h2 with h2 | ⟨e2, h2⟩
    · exact .inl (by omega)
    · exact .inr ⟨e1.trans e2, ltL_trans h1 h2⟩
theorem sl_app {p q : List Str} (t u : Str) (h : sl p q) : sl (p ++ [t]) (q ++ [u]) := by
  rcases h with h | ⟨e, h⟩
  · exact .inl (by rw [List.length_append, List.length_append]; simpa using h)
  · exact .inr ⟨by rw [List.length_append, List.length_append, e]; rfl, ltL_app _ _ e h⟩
theorem sl_last {p : List Str} {t u : Str} (h : ltS t u) : sl (p ++ [t]) (p ++ [u]) := .inr ⟨by rw [List.length_append, List.length_append]; rfl, ltL_last h⟩
/-- equal or ahead -/
def sle (p q : List Str) : Prop := p = q ∨ sl p q
theorem sle_trans {p q r : List Str} (h1 : sle p q) (h2 : sle q r) : sle p r := by
  rcases h1 with rfl | h1
  · exact h2
  · rcases h2 with rfl | h2
    · exact .inr h1
    · exact .inr (sl_trans h1 h2)
theorem sle_app {p q : List Str} (t : Str) (h : sle p q) : sle (p ++ [t]) (q ++ [t]) := by
  rcases h with rfl | h
  · exact .inl rfl
  · exact .inr (sl_app t t h)
inductive IsPath (T : Str → List Str) (a : Str) : List Str → Prop
  | one : IsPath T a [a]
  | more {p : List Str} {t : Str} : IsPath T a p → t ∈ T (lastP p) → IsPath T a (p ++ [t])
section
variable {T : Str → List Str} {a : Str}
theorem IsPath.ne {p : List Str} (h : IsPath T a p) : p ≠ [] := by
  cases h with
  | one => exact List.cons_ne_nil _ _
  | more _ _ => exact List.append_ne_nil_of_right_ne_nil _ (List.cons_ne_nil _ _)
theorem IsPath.pos {p : List Str} (h : IsPath T a p) : 0 < p.length := List.length_pos_iff.mpr h.ne
theorem pre_get {α : Type} {l l' : List α} (h : l <+: l') {j : Nat} {x : α} (e : l[j]? = some x) : l'[j]? = some x := by
  obtain ⟨z, rfl⟩ := h
  rw [List.getElem?_append_left (List.getElem?_eq_some_iff.mp e).1]
  exact e
/-- each but the first comes from an earlier one -/
theorem run_parent (i : Nat) : ∀ x ∈ runP T a i, x = [a] ∨ ∃ j p t, j < i ∧ (runP T a i)[j]? = some p ∧ t ∈ T (lastP p) ∧ x = p ++ [t] := by
  induction i with
  | zero =>
    intro x hx
    exact .inl (List.mem_singleton.mp hx)
  | succ i ih =>
    intro x hx
    have up : ∀ {y : List Str}, y ∈ runP T a i → y = [a] ∨ ∃ j p t, j < i + 1 ∧ (runP T a (i + 1))[j]? = some p ∧ t ∈ T (lastP p) ∧ y = p ++ [t] := fun {y} hy => by
      rcases ih y hy with h | ⟨j, p, t, h1, h2, h3, h4⟩
      · exact .inl h
      · exact .inr ⟨j, p, t, by omega, pre_get (run_pre1 i) h2, h3, h4⟩
    cases hh : (runP T a i)[i]? with
    | none =>
      rw [runP, hh] at hx
      exact up hx
    | some p =>
      have hx' := hx
      rw [run_some hh] at hx'
      rcases ext_mem hx' with h | ⟨t, ht, rfl⟩
      · exact up h
      · exact .inr ⟨i, p, t, by omega, pre_get (run_pre1 i) hh, ht, rfl⟩
theorem ext_rise {p : List Str} : ∀ {ts : List Str} {q : List (List Str)}, q.Pairwise sl → ts.Pairwise ltS → (∀ x ∈ q, ∀ t ∈ ts, sl x (p ++ [t])) → (ext ts p q).Pairwise sl
  | [], q, h, _, _ => h
  | t :: ts, q, h, hu, hx => by
    rw [List.pairwise_cons] at hu
    show (ext ts p (ext1 p q t)).Pairwise sl
    refine ext_rise ?_ hu.2 fun x hxm u hum => ?_
    · unfold ext1
      split
      · exact h
      · refine List.pairwise_append.mpr ⟨h, List.pairwise_singleton _ _, fun x hxm y hy => ?_⟩
        rw [List.mem_singleton.mp hy]
        exact hx x hxm t List.mem_cons_self
    · rcases ext1_mem hxm with h1 | rfl
      · exact hx x h1 u (List.mem_cons_of_mem _ hum)
      · exact sl_last (hu.1 u hum)
theorem pair_at {q : List (List Str)} (h : q.Pairwise sl) {i j : Nat} {x y : List Str} (hi : q[i]? = some x) (hj : q[j]? = some y) (l : i < j) : sl x y := by
  obtain ⟨i1, e1⟩ := List.getElem?_eq_some_iff.mp hi
  obtain ⟨j1, e2⟩ := List.getElem?_eq_some_iff.mp hj
  rw [← e1, ← e2]
  exact List.pairwise_iff_getElem.mp h i j i1 j1 l
theorem run_rise (hT : ∀ s, (T s).Pairwise ltS) (i : Nat) : (runP T a i).Pairwise sl := by
  induction i with
  | zero => exact List.pairwise_singleton _ _
  | succ i ih =>
    cases hh : (runP T a i)[i]? with
    | none => rw [runP, hh]; exact ih
    | some p =>
      rw [run_some hh]
      refine ext_rise ih (hT _) fun x hx t _ => ?_
      have pl : 0 < p.length := List.length_pos_iff.mpr (run_ne (List.mem_of_getElem? hh))
      rcases run_parent i x hx with rfl | ⟨j, y, u, h1, h2, _, rfl⟩
      · exact .inl (by rw [List.length_append]; show 1 < p.length + 1; omega)
      · exact sl_app u t (pair_at ih h2 hh h1)
/-- they are paths, and no name is twice on one -/
theorem run_path (i : Nat) : ∀ x ∈ runP T a i, IsPath T a x ∧ x.Nodup ∧ ∀ y ∈ x, y ∈ lasts (runP T a i) := by
  induction i with
  | zero =>
    intro x hx
    rw [List.mem_singleton.mp hx]
    exact ⟨.one, List.pairwise_singleton _ _, fun y hy => hy⟩
  | succ i ih =>
    cases hh : (runP T a i)[i]? with
    | none => rw [runP, hh]; exact ih
    | some p =>
      rw [run_some hh]
      obtain ⟨p1, p2, p3⟩ := ih p (List.mem_of_getElem? hh)
      have go : ∀ (ts : List Str) (q : List (List Str)), (∀ t ∈ ts, t ∈ T (lastP p)) → (∀ y ∈ p, y ∈ lasts q) → (∀ x ∈ q, IsPath T a x ∧ x.Nodup ∧ ∀ y ∈ x, y ∈ lasts q) → ∀ x ∈ ext ts p q, IsPath T a x ∧ x.Nodup ∧ ∀ y ∈ x, y ∈ lasts (ext ts p q) := by
        intro ts
        induction ts with
        | nil => intro q _ _ h; exact h
        | cons t ts iht =>
          intro q ht hp hq
          show ∀ x ∈ ext ts p (ext1 p q t), IsPath T a x ∧ x.Nodup ∧ ∀ y ∈ x, y ∈ lasts (ext ts p (ext1 p q t))
          have sub := (lasts_pre (ext1_pre p q t)).subset
          refine iht (ext1 p q t) (fun u hu => ht u (List.mem_cons_of_mem _ hu)) (fun y hy => sub (hp y hy)) fun x hx => ?_
          by_cases e : t ∈ lasts q
          · have e1 : ext1 p q t = q := by unfold ext1; rw [if_pos e]
            rw [e1] at hx ⊢
            exact hq x hx
          · rcases ext1_mem hx with h | rfl
            · obtain ⟨a1, a2, a3⟩ := hq x h
              exact ⟨a1, a2, fun y hy => sub (a3 y hy)⟩
            · refine ⟨.more p1 (ht t List.mem_cons_self), List.nodup_append.mpr ⟨p2, List.pairwise_singleton _ _, fun y hy z hz ez => ?_⟩, fun y hy => ?_⟩
              · rw [List.mem_singleton.mp hz] at ez
                exact e (ez ▸ hp y hy)
              · rcases List.mem_append.mp hy with h | h
                · exact sub (hp y h)
                · rw [List.mem_singleton.mp h]
                  unfold ext1
                  rw [if_neg e, lasts_app]
                  refine List.mem_append_right _ ?_
                  show t ∈ [lastP (p ++ [t])]
                  rw [lastP_app]
                  exact List.mem_singleton.mpr rfl
      exact go _ _ (fun t ht => ht) p3 ih
/-- to each end of a path there is one that is not behind it -/
theorem run_least (hT : ∀ s, (T s).Pairwise ltS) {i : Nat} (hi : (runP T a i).length ≤ i) {r : List Str} (hr : IsPath T a r) : ∃ p ∈ runP T a i, lastP p = lastP r ∧ sle p r := by
  induction hr with
  | one => exact ⟨[a], (run_pre (Nat.zero_le i)).subset (List.mem_singleton.mpr rfl), rfl, .inl rfl⟩
  | @more r' t _ ht ih =>
    obtain ⟨p, hp, el, le⟩ := ih
    obtain ⟨j, hj, ej⟩ := List.mem_iff_getElem.mp hp
    have hj0 : (runP T a i)[j]? = some p := by rw [List.getElem?_eq_getElem hj, ej]
    have hji : j < i := by omega
    have hjj : (runP T a j)[j]? = some p := by
      cases hh : (runP T a j)[j]? with
      | some z => rw [pre_get (run_pre (Nat.le_of_lt hji)) hh] at hj0; exact hj0
      | none =>
        have st := run_stable (T := T) (a := a) (List.getElem?_eq_none_iff.mp hh) (i - j)
        rw [show j + (i - j) = i by omega] at st
        rw [st, hh] at hj0
        cases hj0
    have mem : t ∈ lasts (runP T a (j + 1)) := by
      rw [run_some hjj]
      exact ext_has (by rw [el]; exact ht)
    obtain ⟨x, hx, ex⟩ := List.mem_map.mp mem
    have hr1 := run_rise (a := a) hT (j + 1)
    have hp1 : (runP T a (j + 1))[j]? = some p := pre_get (run_pre1 j) hjj
    refine ⟨x, (run_pre (by omega)).subset hx, by rw [lastP_app]; exact ex, sle_trans ?_ (sle_app t le)⟩
    rcases run_parent (j + 1) x hx with rfl | ⟨j', y, u, h1, h2, _, rfl⟩
    · refine .inr (.inl ?_)
      have pl : 0 < p.length := List.length_pos_iff.mpr (run_ne hp)
      rw [List.length_append]
      show 1 < p.length + 1
      omega
    · rw [lastP_app] at ex
      by_cases e : j' = j
      · rw [e, hp1] at h2
        cases h2
        rw [ex]
        exact .inl rfl
      · refine .inr ?_
        rw [ex]
        exact sl_app t t (pair_at hr1 h2 hp1 (by omega))
/-- the first that is right is not behind any path that is right -/
theorem find_least (hT : ∀ s, (T s).Pairwise ltS) {i : Nat} (hi : (runP T a i).length ≤ i) (f : Str → Bool) {r : List Str} (hr : IsPath T a r) (hf : f (lastP r) = true) : ∃ p, (runP T a i).find? (fun p => f (lastP p)) = some p ∧ sle p r := by
  obtain ⟨p, hp, el, le⟩ := run_least hT hi hr
  cases hh : (runP T a i).find? (fun p => f (lastP p)) with
  | none =>
    have z := List.find?_eq_none.mp hh p hp
    rw [el] at z
    exact absurd hf z
  | some x =>
    refine ⟨x, rfl, sle_trans ?_ le⟩
    obtain ⟨hx, as, bs, e, nb⟩ := List.find?_eq_some_iff_append.mp hh
    have rs := run_rise (a := a) hT i
    rw [e] at rs hp
    rcases List.mem_append.mp hp with h | h
    · have z := nb p h
      rw [el, hf] at z
      cases z
    · rcases List.mem_cons.mp h with h | h
      · exact .inl h.symm
      · exact .inr ((List.pairwise_cons.mp (List.pairwise_append.mp rs).2.1).1 p h)
end
end Cr
/-! lists of names as data: their order, min, comprehensions that make them -/
namespace Cr
open PySem PySem.Spec PyProof.Rows L2 Evl
def lD (p : List Str) : PyData := .list (p.map PyData.str)
/-! ### min of a list of lists of names -/
section
variable {X : Cx}
theorem reads_all {pins : List (Addr × Obj)} {σ : L2.St} {H : Hp} {s : Shared} (I : Inv X pins σ H s) : ∀ {xs : List V} {ds : List PyData} {us : List Value}, DtAll H xs ds → Vals xs us → ∃ as, ReadsAll s.heap us ds as
  | _, _, _, .nil, .nil => ⟨[], .nil⟩
  | _, _, _, .cons a b, .cons r rs => by
    obtain ⟨as, h1⟩ := (Dt.shown I a r).1
    obtain ⟨bs, h2⟩ := reads_all I b rs
    exact ⟨as ++ bs, .cons h1 h2⟩
theorem vals_at : ∀ {xs : List V} {us : List Value} {i : Nat} {u : Value}, Vals xs us → us[i]? = some u → ∃ x, xs[i]? = some x ∧ RelV x u
  | _, _, 0, _, .cons r _, h => by cases h; exact ⟨_, rfl, r⟩
  | _, _, i + 1, _, .cons _ rs, h => vals_at (i := i) rs h
end
/-! ### comprehensions whose members are new lists of names -/
end Cr
/-! lists of names shown, lists of pairs sorted -/
namespace Cr
open PySem PySem.Spec PyProof.Rows L2 Evl
theorem lD_fits {p : List Str} (h : ∀ x ∈ p, isNameS x = true) (l : p.length ≤ 62) : Fits (lD p) := by
  refine (sz_list (sza_all (b := 8) (m := 0) fun d hd => ?_)).fits ?_ (by decide)
  · obtain ⟨x, hx, rfl⟩ := List.mem_map.mp hd
    have h := h x hx
    unfold isNameS at h
    simp only [Bool.and_eq_true, decide_eq_true_eq] at h
    refine sz_str (by omega) fun c hc => ?_
    have y := List.all_eq_true.mp h.2 c (by simpa using hc)
    unfold isLow at y
    simp only [Bool.and_eq_true, decide_eq_true_eq] at y
    omega
  · rw [List.length_map]
    omega
theorem neR_same {te tb : TE} {σ : L2.St} {H : Hp} {d : PyData} (h1 : EvD te σ H d) (h2 : EvD tb σ H d) (hf : Fits d) : EvT (tTest (tOp rNe (tCB rRepr (tCons te tNil)) (tCB rRepr (tCons tb tNil)))) σ H false := et_is (et_test (ev_op (ev_reprD h1 hf) (ev_reprD h2 hf) (rv_ne rfl))) (by rw [decide_eq_true rfl]; rfl)
theorem fits_none : Fits .none := (sz_none (b := 0) (m := 0)).fits (by decide) (by decide)
theorem rv_notN {x : V} {H : Hp} : RV (fun x y H Q => y = .non ∧ Q (.bl (!decide (x = .non))) H) x .non H (.bl (!decide (x = .non))) := fun H1 _ Q q => ⟨rfl, q H1 (Ex.refl H1)⟩
theorem sort_pD {H : Hp} {a : Addr} {ps : List Pr} {Q : VK} (h : Dt H (.ref a) (.list (ps.map pD))) (k : ∀ ys p, H p = none → DtAll H ys ((srtP ps).map pD) → Q (.ref p) (upd H p (.lst ys))) : rSortDt [.ref a] H Q := by
  obtain ⟨_, xs, e', hx, hd⟩ := dt_lst h
  cases e'
  refine ⟨a, xs, ps.map pD, rfl, hx, hd, fun d h1 d' h2 => ?_, .inl (fun d hd => ?_), fun d hd => ?_, fun ys q' zq hys => k ys q' zq (by rw [srtP_map] at hys; exact hys)⟩
  · obtain ⟨q, _, rfl⟩ := List.mem_map.mp h1
    obtain ⟨q', _, rfl⟩ := List.mem_map.mp h2
    rfl
  · obtain ⟨q, _, rfl⟩ := List.mem_map.mp hd
    exact ⟨_, _, rfl⟩
  · obtain ⟨q, _, rfl⟩ := List.mem_map.mp hd
    show 1 ≤ 5
    decide
theorem evd_sortP {te : TE} {σ : L2.St} {H : Hp} {ps : List Pr} (h : EvD te σ H (.list (ps.map pD))) : EvD (tCB rSortDt (tCons te tNil)) σ H (.list ((srtP ps).map pD)) := fun H1 e Q q =>
  h H1 e _ fun v H2 e2 hv => by
    obtain ⟨a, xs, rfl, hx, hd⟩ := dt_lst hv
    exact sort_pD hv fun ys p zp hys => q (.ref p) _ (e2.trans (Ex.new zp)) (.lst upd_same (DtAll.ex (Ex.new zp) hys))
theorem evd_ofLD {te : TE} {σ : L2.St} {H : Hp} {xs : List V} {ds : List PyData} (h : EvL te σ H xs) (hd : ∀ H, DtAll H xs ds) : EvD te σ H (.list ds) := evd_ofL h hd
end Cr
/-! closures, needs told; a new list changed -/
namespace Cr
open PySem PySem.Spec PyProof.Rows L2 Evl
/-- a list that is new, changed at once -/
theorem s_appNL {K : PySem.W.Frag} {ta te : TE} {σ : L2.St} {H : Hp} {D : Ends} {xs : List V} {v : V} (h1 : EvL ta σ H xs) (h : ∀ H1, Ev te σ H1 v) (hz : xs.length < 100000) (k : ∀ H1, Ex H H1 → D.nx σ H1) : tDrop (tBM K "list" rAppend ta (tCons te tNil)) D σ H :=
  h1 H (Ex.refl H) _ fun l H1 zl e1 hl => ⟨Or.inl ⟨rfl, xs, sq_of hl⟩, h H1 H1 (Ex.refl H1) _ fun H2 e2 => ⟨l, xs, v, rfl, rfl, e2 l _ hl, sz_lt hz, k _ (Ex.mut (e1.trans e2) zl)⟩⟩
theorem evd_pairs {C x : Addr} {A : NdA} {U : List Str} {g : List Row} {σ : L2.St} {H : Hp} {i : Nat} (h : σ[i]? = some (some (.ref x))) (nd : NdAt C H x A U g) : EvD (tMeth C "pairs" (spPairs C) [] E0 (tVar i) tNil) σ H (.list ((prs g).map pD)) := fun H1 e Q q =>
  ⟨.ref x, h, x, A.dx, _, rfl, (nd.ex e).ob, rfl, x, A, U, g, rfl, nd.ex e, fun l xs H2 zl e2 hl hd => q (.ref l) H2 e2 (.lst hl (DtAll.ex (wo_ex l H2) hd))⟩
theorem el_clo {C CN x : Addr} {n : Nat} {A : NdA} {U : List Str} {g : List Row} {σ : L2.St} {H : Hp} {i : Nat} {ty : TE} {E : XK} {nm : Str} (h : σ[i]? = some (some (.ref x))) (hy : ∀ H1, Ex H H1 → Ev ty σ H1 (.str nm)) (nd : NdAt C H x A U g) (hn : 1 ≤ n) (nmo : isNameS nm = true) : EvL (tMeth C "closure" (spClo C CN n) [] E (tVar i) (tCons ty tNil)) σ H ((cloS g nm).map V.str) := fun H1 e Q q =>
  ⟨.ref x, h, x, A.dx, _, rfl, (nd.ex e).ob, rfl, hy H1 e H1 (Ex.refl H1) _ fun H2 e2 => ⟨x, .str nm, .str nm, A, U, g, rfl, nd.ex (e.trans e2), .str nm, sm_name nmo, ⟨rfl, by show 0 < n; omega⟩, fun z => (by rw [show isName (.str nm) = true from nmo] at z; cases z), fun a ea na => (by cases ea; exact fun l H3 zl e3 hl => q l H3 (fresh_back e2 zl) (e2.trans e3) hl)⟩⟩
theorem ev_dep {C CN x : Addr} {n : Nat} {A : NdA} {U : List Str} {g : List Row} {σ : L2.St} {H : Hp} {i : Nat} {ty tz : TE} {E : XK} {a b : Str} (h : σ[i]? = some (some (.ref x))) (hy : ∀ H1, Ex H H1 → Ev ty σ H1 (.str a)) (hz : ∀ H1, Ex H H1 → Ev tz σ H1 (.str b)) (nd : NdAt C H x A U g) (hn : 1 ≤ n) (na : isNameS a = true) (nb : isNameS b = true) : Ev (tMeth C "depends" (spDep C CN n) [] E (tVar i) (tCons ty (tCons tz tNil))) σ H (.bl (decide (b ∈ cloS g a))) := fun H1 e Q q => by
  refine ⟨.ref x, h, x, A.dx, _, rfl, (nd.ex e).ob, rfl, hy H1 e H1 (Ex.refl H1) _ fun H2 e2 => hz H2 (e.trans e2) H2 (Ex.refl H2) _ fun H3 e3 => ⟨x, .str a, .str b, .str a, .str b, A, U, g, rfl, nd.ex ((e.trans e2).trans e3), .str a, .str b, sm_name na, sm_name nb, ⟨rfl, by show 0 < n; omega⟩, ⟨rfl, by show 0 < n; omega⟩, fun z => ?_, fun _ z => ?_, fun a' b' ea eb _ _ H' e' => ?_⟩⟩
  · rw [show isName (.str a) = true from na] at z; cases z
  · rw [show isName (.str b) = true from nb] at z; cases z
  · cases ea
    cases eb
    exact q H' ((e2.trans e3).trans e')
theorem clo_names {U : List Str} {g : List Row} {a : Str} (ok : GOk U g) (na : isNameS a = true) : ∀ t ∈ cloS g a, isNameS t = true := fun t ht => by
  have go : ∀ {b : Str}, Reach (tgS g) a b → isNameS b = true := by
    intro b r
    induction r with
    | refl => exact na
    | step _ m _ => exact (ok.name m).2
  exact go ((mem_clo ok).mp ht)
theorem clo_nd {g : List Row} {nm : Str} : (cloS g nm).Nodup := (srtS_perm _).nodup_iff.mpr (run_nd 64)
theorem q_appNL {K : PySem.W.Frag} {ta te : TE} {tz : TS} {σ : L2.St} {H : Hp} {D : Ends} {xs : List V} {v : V} (h1 : EvL ta σ H xs) (h : ∀ H1, Ev te σ H1 v) (hz : xs.length < 100000) (k : ∀ H1, Ex H H1 → tz D σ H1) : tSeq (tDrop (tBM K "list" rAppend ta (tCons te tNil))) tz D σ H := s_appNL (D := { D with nx := tz D }) h1 h hz k
theorem clo_low {U : List Str} {g : List Row} {a : Str} (ok : GOk U g) : ∀ {t : Str}, t ∈ cloS g a → t ∈ a :: U := fun {t} ht => by
  have go : ∀ {b : Str}, Reach (tgS g) a b → b ∈ a :: U := by
    intro b r
    induction r with
    | refl => exact List.mem_cons_self
    | step _ m _ => exact List.mem_cons_of_mem _ (ok.tgU m).2
  exact go ((mem_clo ok).mp ht)
theorem str_atB {ns : List Str} {i : Nat} {v : V} (h : (ns.map V.str)[i]? = some v) : ∃ n, ns[i]? = some n ∧ n ∈ ns ∧ V.str n = v := by
  rw [List.getElem?_map] at h
  cases hh : ns[i]? with
  | none => rw [hh] at h; cases h
  | some z => rw [hh] at h; exact ⟨z, rfl, List.mem_of_getElem? hh, Option.some.inj h⟩
end Cr
/-! list.remove of a text -/
/-! new pairs in a comprehension over any walk; parts of lists of names -/
namespace Cr
open PySem PySem.Spec PyProof.Rows L2 Evl
theorem pD_refB {H : Hp} {v : V} {q : Pr} (h : Dt H v (pD q)) : ∃ T, v = .ref T ∧ H T = some (.tup [.str q.1, .str q.2]) := by
  cases h with
  | @tup T _ _ hT hv =>
  cases hv with
  | cons hva hv =>
  cases hv with
  | cons hvb hv =>
  cases hv
  cases dt_str hva
  cases dt_str hvb
  exact ⟨T, rfl, hT⟩
theorem evdf_lcPr {wi : TI} {g : TG} {tt : TT} {te : TE} {vs : List Nat} {σ : L2.St} {H : Hp} {n : Nat} {Y : Nat → Hp → V → Hp → Prop}
    (f : Nat → Bool) (v : Nat → Pr) (hn : n ≤ 40000)
    (hi : ∀ H1, Ex H H1 → ∀ R : It → Hp → Prop, (∀ H2 (J : It) (G : Hp → Prop), Walk J n G Y → (∀ H3 H4, Ex H3 H4 → G H3 → G H4) → Ex H1 H2 → G H2 → R J H2) → wi σ H1 R)
    (hs : ∀ i x H1 H2, Ex H H1 → i < n → Y i H1 x H2 → Ex H1 H2 ∧ ∃ σ2, wipe σ2 vs = wipe σ vs ∧ (∀ R : L2.St → Hp → Prop, R σ2 H2 → g x (wipe σ vs) H2 R) ∧ EvT tt σ2 H2 (f i) ∧ (f i = true → EvD te σ2 H2 (pD (v i)))) :
    EvDF (tLc wi g tt te vs) σ H (.list ((((List.range n).filter f).map v).map pD)) := fun H0 e Q q => by
  refine hi H0 e _ fun H1 J G w hG e1 g1 D hD => ?_
  refine lc_it w (fun i H2 => ∃ acc, H2 D = some (.lst acc) ∧ DtAll (wo D H2) acc ((((List.range i).filter f).map v).map pD) ∧ Ex H1 (wo D H2)) ⟨[], upd_same, .nil, fun b o hb => by rw [wo_ne (ne_of_none hb hD), upd_ne (ne_of_none hb hD)]; exact hb⟩ (fun i H2 _ z => ?_) (fun i x H2 H3 hlt z y => ?_) (fun H2 z => ?_)
  · obtain ⟨_, _, _, ex2⟩ := z
    exact hG H1 H2 (ex2.trans (wo_ex D H2)) g1
  · obtain ⟨acc, hacc, hdt, ex2⟩ := z
    have low := ex2.trans (wo_ex D H2)
    obtain ⟨e2, σ2, hw, hgo, ht, he⟩ := hs i x H2 H3 ((e.trans e1).trans low) hlt y
    refine hgo _ ⟨hw, ht H3 (Ex.refl H3) _ fun H4 e4 => ?_⟩
    have e24 := e2.trans e4
    have la := dtAll_len hdt
    have lf := List.length_filter_le f (List.range i)
    rw [List.length_map, List.length_map] at la
    rw [List.length_range] at lf
    cases hf : f i with
    | true =>
      rw [if_pos rfl]
      refine he hf H4 e4 _ fun t H5 e5 ht5 => ?_
      obtain ⟨T, rfl, hT⟩ := pD_refB ht5
      have e25 := e24.trans e5
      have hD5 := e25 _ _ hacc
      have np : T ≠ D := fun z => by rw [z, hD5] at hT; cases hT
      refine ⟨acc, hD5, by rw [sizeLine_eq]; omega, acc ++ [.ref T], upd_same, ?_, fun b o hb => by rw [wo_ne (ne_of_none hb hD), upd_ne (ne_of_none hb hD)]; exact e25 _ _ (low _ _ hb)⟩
      have exD : Ex (wo D H2) (wo D (upd H5 D (.lst (acc ++ [.ref T])))) := fun b o hb => by
        obtain ⟨n1, hb⟩ := wo_some hb
        rw [wo_ne n1, upd_ne n1]
        exact e25 _ _ hb
      rw [List.range_succ, List.filter_append, List.filter_cons_of_pos hf, List.filter_nil, List.map_append, List.map_append]
      exact dtAll_app (DtAll.ex exD hdt) (.cons (.tup (by rw [wo_ne np, upd_ne np]; exact hT) (.cons (.str _) (.cons (.str _) .nil))) .nil)
    | false =>
      rw [if_neg Bool.false_ne_true]
      refine ⟨acc, e24 _ _ hacc, ?_, fun b o hb => by rw [wo_ne (ne_of_none hb hD)]; exact e24 _ _ (low _ _ hb)⟩
      rw [List.range_succ, List.filter_append, List.filter_cons_of_neg (by rw [hf]; decide), List.filter_nil, List.append_nil]
      exact DtAll.ex (Ex.wo e24) hdt
  · obtain ⟨acc, hacc, hdt, ex2⟩ := z
    exact q D H2 (fresh_back e1 hD) (e1.trans (ex2.trans (wo_ex D H2))) (.lst hacc (DtAll.ex (wo_ex D H2) hdt))
theorem el_cat {t1 t2 : TE} {σ : L2.St} {H : Hp} {xs ys : List V} (h1 : EvL t1 σ H xs) (h2 : EvL t2 σ H ys) (hl : xs.length + ys.length ≤ 100000) : EvL (tOp rCat t1 t2) σ H (xs ++ ys) := fun H1 e Q q =>
  h1 H1 e _ fun a H2 za e2 ha => h2 H2 (e.trans e2) _ fun b H3 zb e3 hb => ⟨a, b, xs, ys, rfl, rfl, e3 _ _ ha, hb, Nat.le_trans hl (by decide), fun d hd => q d _ (fresh_back (e2.trans e3) hd) ((e2.trans e3).trans (Ex.new hd)) upd_same⟩
/-- a part of a list of names is one again -/
theorem cut_strs (ss : List Str) (lo hi : Option Int) : ∃ ts : List Str, cutV (ss.map V.str) lo hi = ts.map V.str ∧ (∀ t ∈ ts, t ∈ ss) ∧ ts.length ≤ ss.length := by
  unfold cutV
  refine ⟨(ss.drop (HT.sIx (ss.map V.str).length 0 lo)).take (HT.sIx (ss.map V.str).length (ss.map V.str).length hi - HT.sIx (ss.map V.str).length 0 lo), ?_, fun t ht => List.mem_of_mem_drop (List.mem_of_mem_take ht), ?_⟩
  · rw [List.map_take, List.map_drop]
  · rw [List.length_take, List.length_drop]
    omega
end Cr
/-! graphs of needs: all of a source deleted -/
namespace Cr
open PySem PySem.Spec PyProof.Rows L2 Evl
abbrev sNDelA : Stmt := inClass (topS 11) 9
theorem scNDelA : FnScope ["self", "source", "count"] ["self", "source"] (defScope sNDelA) := ⟨rfl, rfl, rfl, by decide +kernel, rfl, by decide +kernel, by decide +kernel⟩
section
variable {P : Program} {w : World} {K : PySem.W.Frag} {mg : Str → Option Value} {base : Heap}
theorem ok_delAll {f C : Addr} {fd : FuncData} {k : Nat} (F : Fun K "delete_all" "Needs.delete_all" sNDelA f fd) (B : Blt mg) (T : NdC K mg C) (h2 : HasM P w K mg base CX0 k C "targets" ["self", "name"] (spTargets C)) : FnOk P w K mg base CX0 (k + 1) f fd ["self", "source"] (spDelAll C) := by
  obtain ⟨f2, d2, G2, b2, m2⟩ := h2.ex
  refine F.ok scNDelA (fun vs H Q E h => by obtain ⟨_, _, _, _, _, _, rfl, _⟩ := h; rfl) (fun cdv A outer s H vs Q E hr h => ?_)
  obtain ⟨x, v, d, A', U, g, rfl, nd, hd, hs, q0, q1⟩ := h
  have hu := hu_of hr
  refine ⟨_, pss_cons (ps_set (i := 2) scNDelA.nd rfl (.inl rfl) (pe_callB call_len_seq (by rfl) B.len bLen (pa_cons (pe_meth (E := E0) (pv 0) T.cl m2 G2 hr b2 .nil pass0 (pa_cons (pv 1) pa_nil)) pa_nil)))
    (pss_cons (ps_if (pt_cmpR op_gt (pv 2) pe_int (nomark _)) (pss_one (ps_ddel (pe_fld (pv 0) rfl) (pv 1))) pss_nil)
    (pss_one (ps_ret (pv 2)))), ?_⟩
  have tg : EvL (tMeth C "targets" (spTargets C) [] E0 (tVar 0) (tCons (tVar 1) tNil)) [some (.ref x), some v, none] H ((tgD g d).map V.str) := el_meth (ev_var rfl) nd.ob rfl (ea_cons (ev_var rfl) ea_nil) (spl_targets nd hd hs)
  refine q_asg (ev_lenN tg) fun H1 e1 => ?_
  rw [List.length_map]
  refine q_when (b := decide (((tgD g d).length : Int) > 0)) (et_test (ev_op (ev_var rfl) ev_c rv_I0)) (fun hb H2 e2 => ?_) (fun hb H2 e2 => ?_)
  · have hb' := of_decide_eq_true hb
    cases d with
    | str s0 =>
      cases hd with
      | str =>
      have ne : tgS g s0 ≠ [] := fun z => by
        have hb2 : ((tgS g s0).length : Int) > 0 := hb'
        rw [z] at hb2
        exact absurd hb2 (by decide)
      have nd2 := nd.ex (e1.trans e2)
      refine ⟨.ref x, rfl, x, C, A'.dx, _, .ref A'.dd, rfl, nd2.ob, T.cl, T.nN, rfl, .str s0, rfl, A'.dd, g.map kvR, Sum.inr s0, rfl, nd2.di, rfl, ?_, ?_⟩
      · rw [val_row, Option.isSome_map]
        cases hr : rowOf g s0 with
        | none => exact absurd (by unfold tgS; rw [hr]) ne
        | some r => rfl
      rw [dropK_row]
      refine s_ret (ev_var rfl) fun H3 e3 => q1 s0 rfl ne H3 (fun b o nb hb3 => e3 _ _ ?_) (NdAt.ex ⟨by rw [upd_ne nd.xd]; exact nd2.ob, upd_same, fun r hr => ?_, drop_ok nd.ok s0⟩ e3)
      · have nb' : b ≠ A'.dd := fun z => nb (by rw [z]; exact List.mem_cons_self)
        rw [upd_ne nb']
        exact (e1.trans e2) _ _ hb3
      · have hr' := (List.mem_filter.mp hr).1
        rw [upd_ne (nd.da hr').symm]
        exact nd2.ls r hr'
    | _ => exact absurd hb' (by show ¬ ((0 : Nat) : Int) > 0; decide)
  · have hb' := of_decide_eq_false hb
    have e0 : tgD g d = [] := List.length_eq_zero_iff.mp (by omega)
    refine s_ret (ev_var rfl) fun H3 e3 => ?_
    rw [e0]
    exact q0 e0 H3 ((e1.trans e2).trans e3)
end
end Cr
/-! data that are drawn: expressions by the data that they give, beside a pot -/
namespace Cr
open PySem PySem.Spec PyProof.Rows L2 Evl
theorem Drew.dt {p : Addr} {H H' : Hp} {v : V} {d : PyData} (r : Drew p H H') (h : Dt (wo p H) v d) : Dt (wo p H') v d := Dt.ex r.ex h
theorem Drew.dts {p : Addr} {H H' : Hp} {vs : List V} {ds : List PyData} (r : Drew p H H') (h : DtAll (wo p H) vs ds) : DtAll (wo p H') vs ds := DtAll.ex r.ex h
theorem dt_wo {p : Addr} {H : Hp} {v : V} {d : PyData} (h : Dt (wo p H) v d) : Dt H v d := Dt.ex (wo_ex p H) h
/-- a new object beside the pot -/
theorem Drew.put {p l : Addr} {H H' : Hp} {o : HO} (r : Drew p H H') (z : H' l = none) : Drew p H (upd H' l o) ∧ l ≠ p ∧ wo p (upd H' l o) l = some o := by
  have n := r.neq z
  exact ⟨r.new z, n, by rw [wo_ne n, upd_same]⟩
/-! ### n == j, n a number in a variable -/
end Cr
/-! graphs of needs: what changes, as a rule for each change -/
namespace Cr
open PySem PySem.Spec PyProof.Rows L2 Evl
theorem But.more {l l' : List Addr} {H H' : Hp} (b : But l H H') (h : ∀ a ∈ l, a ∈ l') : But l' H H' := fun a o n z => b a o (fun m => n (h a m)) z
theorem rec_of {C CN x : Addr} {n : Nat} {s t : Str} {A : NdA} {U : List Str} {g : List Row} {H : Hp} {Q : VK} {E : XK} (nd : NdAt C H x A U g) (n1 : 1 ≤ n) (hs : s ∈ U) (ht : t ∈ U)
    (k : ∀ b g' H', But [A.dd] H H' → NdAt C H' x A U g' → (∀ q : Pr, q.2 ∈ tgS g' q.1 ↔ (q = (s, t) ∨ q.2 ∈ tgS g q.1)) → (∀ r ∈ g', r ∈ g ∨ H r.a = none) → Q (.bl b) H') : spRecord C CN n [.ref x, .str s, .str t] H Q E := by
  have ns0 := nd.ok.un s hs
  have nt0 := nd.ok.un t ht
  have cpn : ∀ {z : Str}, cpyTo n (.str z) := ⟨rfl, by show 0 < n; omega⟩
  refine ⟨x, .str s, .str t, .str s, .str t, A, U, g, rfl, nd, .str s, .str t, sm_name ns0, sm_name nt0, cpn, cpn, fun z => ?_, fun _ z => ?_, fun _ _ => ⟨s, t, rfl, rfl, hs, ht, fun mem H1 e1 => ?_, fun mem l H1 zl b1 nd1 => ?_⟩⟩
  · rw [show isName (.str s) = true from ns0] at z; cases z
  · rw [show isName (.str t) = true from nt0] at z; cases z
  · refine k false g H1 (But.of e1) (nd.ex e1) (fun q' => ⟨.inr, ?_⟩) fun r hr => .inl hr
    rintro (h | h)
    · rw [h]; exact mem
    · exact h
  · refine k true _ H1 b1 nd1 (fun q' => ?_) fun r hr => ?_
    · rw [tgS_put]
      show q'.2 ∈ (if s = q'.1 then srtS (tgS g s ++ [t]) else tgS g q'.1) ↔ _
      by_cases h : s = q'.1
      · rw [if_pos h, (srtS_perm _).mem_iff, List.mem_append, List.mem_singleton, h]
        constructor
        · rintro (z | z)
          · exact .inr z
          · exact .inl (Prod.ext rfl z)
        · rintro (z | z)
          · exact .inr (by rw [z])
          · exact .inl z
      · rw [if_neg h]
        constructor
        · exact .inr
        · rintro (z | z)
          · exact absurd (by rw [z]) h
          · exact z
    · rcases mem_put hr with rfl | hr
      · exact .inr zl
      · exact .inl hr
theorem delAll_of {C x : Addr} {s : Str} {A : NdA} {U : List Str} {g : List Row} {H : Hp} {Q : VK} {E : XK} (nd : NdAt C H x A U g) (hs : isNameS s = true)
    (k : ∀ g' H', But [A.dd] H H' → NdAt C H' x A U g' → (∀ q : Pr, q.2 ∈ tgS g' q.1 ↔ (q.2 ∈ tgS g q.1 ∧ q.1 ≠ s)) → (∀ r ∈ g', r ∈ g) → Q (.int ((tgS g s).length : Int)) H') : spDelAll C [.ref x, .str s] H Q E := by
  refine ⟨x, .str s, .str s, A, U, g, rfl, nd, .str s, sm_name hs, fun z H1 e1 => ?_, fun s' es hne H1 b1 nd1 => ?_⟩
  · have z' : tgS g s = [] := z
    have y := k g H1 (But.of e1) (nd.ex e1) (fun q' => ⟨fun a => ⟨a, fun e => by rw [e, z'] at a; exact nomatch a⟩, fun a => a.1⟩) fun r hr => hr
    rw [z'] at y
    exact y
  · cases es
    refine k _ H1 b1 nd1 (fun q' => ?_) fun r hr => (List.mem_filter.mp hr).1
    rw [tgS_drop]
    by_cases h : q'.1 = s
    · rw [if_pos h]
      exact ⟨fun a => (nomatch a), fun a => absurd h a.2⟩
    · rw [if_neg h]
      exact ⟨fun a => ⟨a, h⟩, fun a => a.1⟩
/-- a graph that a heap does not know -/
structure NewG (C : Addr) (H0 H : Hp) (x : Addr) (A : NdA) (U : List Str) (g : List Row) : Prop where
  nd : NdAt C H x A U g
  zx : H0 x = none
  zd : H0 A.dd = none
  za : ∀ r ∈ g, H0 r.a = none
theorem drew_but {p : Addr} {H0 H H' : Hp} {l : List Addr} (r : Drew p H0 H) (pot : Pot H0 p) (b : But l H H') (hl : ∀ a ∈ l, H0 a = none) : Drew p H0 H' := by
  refine ⟨fun a o z => ?_, ?_⟩
  · obtain ⟨n, z⟩ := wo_some z
    rw [wo_ne n]
    exact b a o (fun m => by rw [hl a m] at z; cases z) (r.at n z)
  · obtain ⟨i, j, hp, h'⟩ := r.pot
    refine ⟨i, j, b p _ (fun m => ?_) hp, h'⟩
    obtain ⟨_, _, hp0, _⟩ := pot
    rw [hl p m] at hp0
    cases hp0
theorem NewG.drew {C : Addr} {H0 H H' : Hp} {p x : Addr} {A : NdA} {U : List Str} {g : List Row} (h : NewG C H0 H x A U g) (r : Drew p H H') (pot : Pot H p) : NewG C H0 H' x A U g := ⟨h.nd.drew r pot, h.zx, h.zd, h.za⟩
theorem NewG.ex {C : Addr} {H0 H H' : Hp} {x : Addr} {A : NdA} {U : List Str} {g : List Row} (h : NewG C H0 H x A U g) (r : Ex H H') : NewG C H0 H' x A U g := ⟨h.nd.ex r, h.zx, h.zd, h.za⟩
/-- Needs(): a new graph without needs -/
theorem new_of {C : Addr} {U : List Str} {H : Hp} {Q : VK} (hU : ∀ n ∈ U, isNameS n = true) (lU : U.length ≤ 62) (k : ∀ x A H', Ex H H' → NewG C H H' x A U [] → Q (.ref x) H') {x dx dd : Addr} {H3 : Hp} (zx : H x = none) (zdx : H dx = none) (nxd : dx ≠ x) (zdd : (upd (upd H dx (.own x)) x (.ins C dx [])) dd = none) (ndx : dd ≠ x) (eH3 : H3 = upd (upd (upd (upd H dx (.own x)) x (.ins C dx [])) dd (.dK [])) x (.ins C dx [("needed", .ref dd)])) : Q (.ref x) H3 := by
  have zdd2 : H dd = none := by
    rw [upd_ne ndx] at zdd
    by_cases e : dd = dx
    · rw [e, upd_same] at zdd; cases zdd
    · rw [upd_ne e] at zdd; exact zdd
  have e23 : Ex H H3 := fun b o hb => by
    rw [eH3, upd_ne (ne_of_none hb zx), upd_ne (ne_of_none hb zdd2), upd_ne (ne_of_none hb zx), upd_ne (ne_of_none hb zdx)]
    exact hb
  have x3 : H3 x = some (.ins C dx [("needed", .ref dd)]) := by rw [eH3, upd_same]
  have d3' : H3 dd = some (.dK ((([] : List Row)).map kvR)) := by rw [eH3, upd_ne ndx, upd_same]; rfl
  exact k x ⟨dx, dd⟩ H3 e23 ⟨⟨x3, d3', by simp, ⟨hU, lU, List.nodup_nil, List.nodup_nil, by simp, by simp, by simp, by simp⟩⟩, zx, zdd2, by simp⟩
end Cr
/-! the law's own order: a list mixed -/
namespace Cr
open PySem PySem.Spec PyProof.Rows L2 Evl
abbrev sMixed : Stmt := topS 18
abbrev nMixed : List Str := ["_law_pot_here", "_law_options", "_law_rest", "_law_found"]
theorem scMixed : FnScope nMixed ["_law_pot_here", "_law_options"] (defScope sMixed) := ⟨rfl, rfl, rfl, by decide +kernel, rfl, by decide +kernel, by decide +kernel⟩
def spMixed : Sp := fun vs H Q _ => ∃ (p lo : Addr) (xs : List V) (ds : List PyData), vs = [.ref p, .ref lo] ∧ Pot H p ∧ lo ≠ p ∧ H lo = some (.lst xs) ∧ DtAll (wo p H) xs ds ∧ ds.length ≤ 1000 ∧ (∀ es, (∀ e ∈ es, e ∈ ds) → SeqAt.shaped (.list es) = true) ∧
  ∀ (l : Addr) (bs : List (V × PyData)) (H' : Hp), H l = none → Drew p H H' → H' l = some (.lst (bs.map (·.1))) → bs.Perm (xs.zip ds) → Q (.ref l) H'
theorem erase_perm {α : Type} : ∀ {l : List α} {k : Nat} {b : α}, l[k]? = some b → (b :: l.eraseIdx k).Perm l
  | a :: r, 0, b, h => by cases h; exact List.Perm.refl _
  | a :: r, k + 1, b, h => (List.Perm.swap a b _).trans (List.Perm.cons a (erase_perm (l := r) h))
theorem map_erase {α β : Type} (f : α → β) : ∀ (l : List α) (k : Nat), (l.map f).eraseIdx k = (l.eraseIdx k).map f
  | [], k => by simp
  | a :: r, 0 => rfl
  | a :: r, k + 1 => by
    show f a :: (r.map f).eraseIdx k = f a :: (r.eraseIdx k).map f
    rw [map_erase f r k]
theorem eqv_nil (d : PyData) (ds : List PyData) : PyData.eqv (.list (d :: ds)) (.list []) = false := by simp [PyData.eqv, PyData.eqvAll]
section
variable {P : Program} {w : World} {K : PySem.W.Frag} {mg : Str → Option Value} {base : Heap}
theorem ok_mixed {f : Addr} {fd : FuncData} {k : Nat} (F : Fun K "_law_mixed" "_law_mixed" sMixed f fd) (B : Blt mg) (h1 : Has P w K mg base k "_law_draw" ["_law_pot_here", "_law_bound"] spDraw) : FnG P w K mg base CX0 (k + 1) f fd ["_law_pot_here", "_law_options"] spMixed := by
  obtain ⟨f1, d1, G1, b1, k1, g1⟩ := h1.ex
  refine okG F scMixed (fun vs H Q E h => by obtain ⟨_, _, _, _, rfl, _⟩ := h; rfl) (fun cdv A outer s H vs Q E hq hr h => ?_)
  obtain ⟨p, lo, xs, ds, rfl, pot, nlo, hlo, hxs, lds, sha, q⟩ := h
  refine ⟨_, pss_cons (ps_par (i := 2) (j := 3) (by rfl) scMixed.nd rfl rfl (by decide) rfl rfl (pa_cons (pe_callTy call_list_of (by rfl) B.list bList (pa_cons (pv 1) pa_nil)) (pa_cons (pe_lst pa_nil) pa_nil)) (by rfl))
    (pss_cut (ps_while PassesOwn.never (pt_cmpR (op_neDt hr.units) (pv 2) (pe_lst pa_nil) (nomark _))
      (pss_one (ps_expr (pe_bm PySem.F.plainAttrs_list PySem.F.slot_list_append PySem.F.type_list_append mt_append (pv 3) (pa_cons (pe_bm PySem.F.plainAttrs_list PySem.F.slot_list_pop PySem.F.type_list_pop mt_popAt (pv 2) (pa_cons (callG G1 hq hr (by rfl) g1 k1 b1 .nil pass0 (pa_cons (pv 0) (pa_cons (pe_callB call_len_seq (by rfl) B.len bLen (pa_cons (pv 2) pa_nil)) pa_nil))) pa_nil)) pa_nil)))))
    (pss_one (ps_ret (pv 3)))), ?_⟩
  obtain ⟨z1, z2, z3⟩ := dtAll_zip hxs
  have lx := dtAll_len hxs
  refine ⟨.ref lo, rfl, lo, xs, rfl, .inl (sq_of hlo), fun lr zr => ⟨by show 0 ≤ sizeLine; decide, fun lf zf => ⟨.ref lr, .ref lf, rfl, ?_⟩⟩⟩
  dsimp only
  have e1 := Ex.new (o := .lst xs) zr
  have e2 := Ex.new (o := .lst []) zf
  have r2 : Drew p H (upd (upd H lr (.lst xs)) lf (.lst [])) := Drew.of pot (e1.trans e2)
  have zf0 : H lf = none := fresh_back e1 zf
  have hr2 : (upd (upd H lr (.lst xs)) lf (.lst [])) lr = some (.lst xs) := e2 _ _ upd_same
  have hf2 : (upd (upd H lr (.lst xs)) lf (.lst [])) lf = some (.lst []) := upd_same
  have nrf : lr ≠ lf := ne_of_none upd_same zf
  have nrp : lr ≠ p := (Drew.refl pot).neq zr
  have nfp : lf ≠ p := (Drew.refl pot).neq zf0
  generalize upd (upd H lr (.lst xs)) lf (.lst []) = H2 at r2 hr2 hf2
  show tCut _ _ _ [some (.ref p), some (.ref lo), some (.ref lr), some (.ref lf)] H2
  refine q_cut (M := fun σ H' => σ = [some (.ref p), some (.ref lo), some (.ref lr), some (.ref lf)] ∧ ∃ bs : List (V × PyData), bs.Perm (xs.zip ds) ∧ H' lf = some (.lst (bs.map (·.1))) ∧ Drew p H H') ?_ ?_
  rotate_left
  · rintro σ H3 ⟨rfl, bs, pm, hf, r3⟩
    exact ⟨.ref lf, rfl, q lf bs H3 zf0 r3 hf pm⟩
  refine s_while (fun m σ H' => σ = [some (.ref p), some (.ref lo), some (.ref lr), some (.ref lf)] ∧ ∃ fb rb : List (V × PyData), (fb ++ rb).Perm (xs.zip ds) ∧ H' lf = some (.lst (fb.map (·.1))) ∧ H' lr = some (.lst (rb.map (·.1))) ∧ Drew p H H' ∧ rb.length = m) xs.length ⟨rfl, [], xs.zip ds, List.Perm.refl _, hf2, by rw [z3]; exact hr2, r2, by have := congrArg List.length z3; rw [List.length_map] at this; exact this⟩ ?_
  rintro m σ H3 ⟨rfl, fb, rb, pm, hf, hrb, r3, hm⟩
  have mem : ∀ b ∈ rb, b ∈ xs.zip ds := fun b hb => pm.mem_iff.mp (List.mem_append_right _ hb)
  have drb : DtAll (wo p H) (rb.map (·.1)) (rb.map (·.2)) := dtAll_of fun b hb => z1 b (mem b hb)
  have drb3 : Dt H3 (.ref lr) (.list (rb.map (·.2))) := .lst hrb (DtAll.ex (wo_ex _ _) (DtAll.ex r3.ex drb))
  have dsm : ∀ e ∈ rb.map (·.2), e ∈ ds := fun e he => by
    obtain ⟨b, hb, rfl⟩ := List.mem_map.mp he
    have := List.mem_map_of_mem (f := (·.2)) (mem b hb)
    rw [z2] at this
    exact this
  have lpm := pm.length_eq
  rw [List.length_append, List.length_zip] at lpm
  refine ⟨!PyData.eqv (.list (rb.map (·.2))) (.list []), et_neD (evd_var rfl drb3) (evd_lst evda_nil (by show 0 ≤ 1000; decide)) (sha _ dsm) (sha [] (by simp)), fun hb H4 e4 => ?_, fun hb H4 e4 => ?_⟩
  rotate_left
  · have n0 : rb = [] := by
      cases rb with
      | nil => rfl
      | cons b r => rw [List.map_cons, eqv_nil] at hb; exact absurd hb (by decide)
    subst n0
    rw [List.append_nil] at pm
    exact ⟨rfl, fb, pm, e4 _ _ hf, r3.trans (Drew.of r3.pot e4)⟩
  have rp : 0 < rb.length := by
    cases rb with
    | nil => exact absurd hb (by simp [PyData.eqv, PyData.eqvAll])
    | cons b r => exact Nat.succ_pos _
  have r4 := r3.trans (Drew.of r3.pot e4)
  refine ⟨fun σ H' => σ = [some (.ref p), some (.ref lo), some (.ref lr), some (.ref lf)] ∧ ∃ fb rb' : List (V × PyData), (fb ++ rb').Perm (xs.zip ds) ∧ H' lf = some (.lst (fb.map (·.1))) ∧ H' lr = some (.lst (rb'.map (·.1))) ∧ Drew p H H' ∧ rb'.length < rb.length, fun σ2 H5 ⟨e, fb', rb', a1, a2, a3, a4, a5⟩ => ⟨rb'.length, by omega, e, fb', rb', a1, a2, a3, a4, rfl⟩, ?_⟩
  refine ⟨.ref lf, rfl, .inl ⟨rfl, _, sq_of (e4 _ _ hf)⟩, .ref lr, rfl, .inl ⟨rfl, _, sq_of (e4 _ _ hrb)⟩, .ref p, rfl, .ref lr, rfl, lr, _, rfl, .inl (sq_of (e4 _ _ hrb)), p, _, rfl, ?_, ?_, r4.pot, fun c H5 c0 c1 r5 => ?_⟩
  · rw [List.length_map]; omega
  · rw [List.length_map]
    refine Nat.lt_of_le_of_lt (Nat.log2_le_self _) ?_
    omega
  rw [List.length_map] at c1
  have cl : c.toNat < rb.length := by omega
  have r45 := r4.trans r5
  have hrb5 := r5.at nrp (e4 _ _ hrb)
  have hf5 := r5.at nfp (e4 _ _ hf)
  refine ⟨lr, rb.map (·.1), c, c.toNat, rb[c.toNat].1, rfl, rfl, hrb5, by omega, by omega, ?_, by rw [List.getElem?_map, List.getElem?_eq_getElem cl]; rfl, ?_⟩
  · exact seqIndex_of c0 (by rw [List.length_map]; omega)
  have hf6 : (upd H5 lr (.lst ((rb.map (·.1)).eraseIdx c.toNat))) lf = some (.lst (fb.map (·.1))) := by rw [upd_ne nrf.symm]; exact hf5
  refine ⟨lf, fb.map (·.1), rb[c.toNat].1, rfl, rfl, hf6, sz_lt (by rw [List.length_map]; omega), rfl, fb ++ [rb[c.toNat]], rb.eraseIdx c.toNat, ?_, ?_, ?_, ?_, ?_⟩
  · refine List.Perm.trans ?_ pm
    rw [List.append_assoc]
    exact List.Perm.append_left _ (erase_perm (List.getElem?_eq_getElem cl))
  · rw [upd_same, List.map_append]; rfl
  · rw [upd_ne nrf, upd_same, map_erase]
  · exact (r45.mut zr nrp).mut zf0 nfp
  · rw [List.length_eraseIdx_of_lt cl]; omega
end
end Cr
/-! a graph beside its pairs, rules -/
namespace Cr
open PySem PySem.Spec PyProof.Rows L2 Evl
structure MkN (P : Program) (w : World) (K : PySem.W.Frag) (mg : Str → Option Value) (base : Heap) (k : Nat) (C : Addr) : Prop where
  ex : ∃ f fd, Mk K C f ∧ FnOk P w K mg base CX0 k f fd ["self"] (spNInit C) ∧ Binds K fd ["self"] []
/-- the pairs stay where only dicts and lists of texts change -/
theorem pairs_keep {p lp : Addr} {H H' : Hp} {ps : List Pr} {l : List Addr} (h : Dt (wo p H) (.ref lp) (.list (ps.map pD))) (b : But l H H') (hl : ∀ a ∈ l, (∃ kvs, H a = some (.dK kvs)) ∨ ∃ ts : List Str, ts ≠ [] ∧ H a = some (.lst (ts.map V.str))) : Dt (wo p H') (.ref lp) (.list (ps.map pD)) := by
  obtain ⟨_, xs, e', hx, hd⟩ := dt_lst h
  cases e'
  obtain ⟨n1, hx1⟩ := wo_some hx
  have tup : ∀ {T : Addr} {ys : List V}, wo p H T = some (.tup ys) → wo p H' T = some (.tup ys) := fun {T ys} hT => by
    obtain ⟨n, hT⟩ := wo_some hT
    rw [wo_ne n]
    refine b T _ (fun m => ?_) hT
    rcases hl T m with ⟨kvs, z⟩ | ⟨ts, _, z⟩
    · rw [hT] at z; cases z
    · rw [hT] at z; cases z
  have all : ∀ {xs : List V} {qs : List Pr}, DtAll (wo p H) xs (qs.map pD) → DtAll (wo p H') xs (qs.map pD) := by
    intro xs qs
    induction qs generalizing xs with
    | nil => intro h; cases h; exact .nil
    | cons q r ih =>
      intro h
      cases h with
      | cons h1 h2 =>
        obtain ⟨T, rfl, hT⟩ := pD_refB h1
        exact .cons (.tup (tup hT) (.cons (.str _) (.cons (.str _) .nil))) (ih h2)
  refine .lst ?_ (all hd)
  rw [wo_ne n1]
  refine b lp _ (fun m => ?_) hx1
  rcases hl lp m with ⟨kvs, z⟩ | ⟨ts, ne, z⟩
  · rw [hx1] at z; cases z
  · rw [hx1] at z
    have ez : xs = ts.map V.str := by
      have := Option.some.inj z
      injection this
    cases ts with
    | nil => exact ne rfl
    | cons t r =>
      rw [ez, List.map_cons] at hd
      cases ps with
      | nil => cases hd
      | cons q r' =>
        rw [List.map_cons] at hd
        cases hd with
        | cons h1 _ => cases h1
theorem tups_keep {p : Addr} {H H' : Hp} (tup : ∀ {T : Addr} {ys : List V}, wo p H T = some (.tup ys) → wo p H' T = some (.tup ys)) : ∀ {xs : List V} {qs : List Pr}, DtAll (wo p H) xs (qs.map pD) → DtAll (wo p H') xs (qs.map pD) := by
  intro xs qs
  induction qs generalizing xs with
  | nil => intro h; cases h; exact .nil
  | cons q r ih =>
    intro h
    cases h with
    | cons h1 h2 =>
      obtain ⟨T, rfl, hT⟩ := pD_refB h1
      exact .cons (.tup (tup hT) (.cons (.str _) (.cons (.str _) .nil))) (ih h2)
theorem row_ne {p lp a : Addr} {H : Hp} {ps : List Pr} {ts : List Str} (h : Dt (wo p H) (.ref lp) (.list (ps.map pD))) (ne : ts ≠ []) (ha : H a = some (.lst (ts.map V.str))) : a ≠ lp := fun e => by
  obtain ⟨_, xs, e', hx, hd⟩ := dt_lst h
  cases e'
  obtain ⟨_, hx1⟩ := wo_some hx
  rw [e, hx1] at ha
  have ez : xs = ts.map V.str := by
    have := Option.some.inj ha
    injection this
  cases ts with
  | nil => exact ne rfl
  | cons t r =>
    rw [ez, List.map_cons] at hd
    cases ps with
    | nil => cases hd
    | cons q r' =>
      rw [List.map_cons] at hd
      cases hd with
      | cons h1 _ => cases h1
/-- the law's graph beside its pairs -/
structure Kp (C : Addr) (HB H : Hp) (p x lp : Addr) (A : NdA) (g : List Row) (ns : List Str) (ps : List Pr) : Prop where
  ng : NewG C HB H x A ns g
  dr : Drew p HB H
  hp : Dt (wo p H) (.ref lp) (.list (ps.map pD))
  dis : ps.Nodup
  hm : ∀ q : Pr, q.2 ∈ tgS g q.1 ↔ q ∈ ps
  zl : HB lp = none
section
variable {C : Addr} {HB H H' : Hp} {p x lp : Addr} {A : NdA} {g g' : List Row} {ns : List Str} {ps : List Pr}
theorem Kp.drew (h : Kp C HB H p x lp A g ns ps) (r : Drew p H H') : Kp C HB H' p x lp A g ns ps := ⟨h.ng.drew r h.dr.pot, h.dr.trans r, r.dt h.hp, h.dis, h.hm, h.zl⟩
theorem Kp.ex (h : Kp C HB H p x lp A g ns ps) (e : Ex H H') : Kp C HB H' p x lp A g ns ps := h.drew (Drew.of h.dr.pot e)
theorem Kp.few (h : Kp C HB H p x lp A g ns ps) (l8 : ns.length ≤ 8) : ps.length ≤ 500 := by
  have e := prs_srt h.ng.nd.ok h.dis h.hm
  have le : (prs g).length = ps.length := by rw [← e]; exact (srtP_perm ps).length_eq
  have s1 : (srcs g).length ≤ 8 := by
    have := nodup_len (ws := srcs g) (us := ns) (rise_nodup (srcs_lt h.ng.nd.ok)) fun y hy => by
      obtain ⟨r, hr, rfl⟩ := (mem_srcs (U := ns)).mp hy
      exact h.ng.nd.ok.nm r hr
    omega
  have fl := flat_len (f := tgS g) (ss := srcs g) fun s _ => h.ng.nd.ok.fewT s
  have e2 : prs g = (srcs g).flatMap fun s => (tgS g s).map fun t => ((s, t) : Pr) := rfl
  rw [← e2, le] at fl
  omega
/-- a change of the graph -/
theorem chg3 {l : List Addr} (ng : NewG C HB H x A ns g) (dr : Drew p HB H) (hp : Dt (wo p H) (.ref lp) (.list (ps.map pD))) (pot : Pot HB p) (b : But l H H') (hl : ∀ a ∈ l, a = A.dd ∨ ∃ r ∈ g, a = r.a) (nd : NdAt C H' x A ns g') (fr : ∀ r ∈ g', (∃ r0 ∈ g, r.a = r0.a) ∨ H r.a = none) : NewG C HB H' x A ns g' ∧ Drew p HB H' ∧ Dt (wo p H') (.ref lp) (.list (ps.map pD)) := by
  refine ⟨⟨nd, ng.zx, ng.zd, fun r hr => ?_⟩, drew_but dr pot b fun a ha => ?_, pairs_keep hp b fun a ha => ?_⟩
  · rcases fr r hr with ⟨r0, h0, e0⟩ | z
    · rw [e0]; exact ng.za r0 h0
    · exact fresh_drew dr pot z
  · rcases hl a ha with rfl | ⟨r, hr, rfl⟩
    · exact ng.zd
    · exact ng.za r hr
  · rcases hl a ha with rfl | ⟨r, hr, rfl⟩
    · exact .inl ⟨_, ng.nd.di⟩
    · exact .inr ⟨r.ts, ng.nd.ok.ne r hr, ng.nd.ls r hr⟩
theorem Kp.chg {l : List Addr} (h : Kp C HB H p x lp A g ns ps) (pot : Pot HB p) (b : But l H H') (hl : ∀ a ∈ l, a = A.dd ∨ ∃ r ∈ g, a = r.a) (nd : NdAt C H' x A ns g') (fr : ∀ r ∈ g', (∃ r0 ∈ g, r.a = r0.a) ∨ H r.a = none) : NewG C HB H' x A ns g' ∧ Drew p HB H' ∧ Dt (wo p H') (.ref lp) (.list (ps.map pD)) := chg3 h.ng h.dr h.hp pot b hl nd fr
end
/-- the list of the pairs changed in place -/
theorem put3 {C : Addr} {HB H : Hp} {p x lp : Addr} {A : NdA} {g : List Row} {ns : List Str} {ps ps0 : List Pr} {xs : List V} (ng : NewG C HB H x A ns g) (dr : Drew p HB H) (hp : Dt (wo p H) (.ref lp) (.list (ps0.map pD))) (zl : HB lp = none) (hd : DtAll (wo p H) xs (ps.map pD)) : NewG C HB (upd H lp (.lst xs)) x A ns g ∧ Drew p HB (upd H lp (.lst xs)) ∧ Dt (wo p (upd H lp (.lst xs))) (.ref lp) (.list (ps.map pD)) := by
  obtain ⟨_, ys, e', hx, hy⟩ := dt_lst hp
  cases e'
  obtain ⟨nl, hx1⟩ := wo_some hx
  have bu : But [lp] H (upd H lp (.lst xs)) := fun a o n z => by rw [upd_ne (fun e => n (List.mem_singleton.mpr e))]; exact z
  refine ⟨⟨ng.nd.but bu (fun m => ?_) (fun m => ?_) fun r hr m => ?_, ng.zx, ng.zd, ng.za⟩, dr.mut zl nl, .lst (by rw [wo_ne nl, upd_same]) (tups_keep (fun {T zs} hT => ?_) hd)⟩
  · have z := ng.nd.ob; rw [List.mem_singleton.mp m, hx1] at z; cases z
  · have z := ng.nd.di; rw [List.mem_singleton.mp m, hx1] at z; cases z
  · exact row_ne hp (ng.nd.ok.ne r hr) (ng.nd.ls r hr) (List.mem_singleton.mp m)
  · obtain ⟨n, hT⟩ := wo_some hT
    rw [wo_ne n, upd_ne (fun e => by rw [e, hx1] at hT; cases hT)]
    exact hT
theorem Kp.put {C : Addr} {HB H : Hp} {p x lp : Addr} {A : NdA} {g : List Row} {ns : List Str} {ps ps0 : List Pr} {xs : List V} (ng : NewG C HB H x A ns g) (dr : Drew p HB H) (pot : Pot HB p) (hp : Dt (wo p H) (.ref lp) (.list (ps0.map pD))) (zl : HB lp = none) (hd : DtAll (wo p H) xs (ps.map pD)) (dis : ps.Nodup) (hm : ∀ q : Pr, q.2 ∈ tgS g q.1 ↔ q ∈ ps) : Kp C HB (upd H lp (.lst xs)) p x lp A g ns ps := by
  obtain ⟨a, b, c⟩ := put3 ng dr hp zl hd
  exact ⟨a, b, c, dis, hm, zl⟩
def fstIsB (nm : Str) : PyData → Bool
  | .tuple [.str a, _] => decide (a = nm)
  | _ => false
theorem fst_filterB (ps : List Pr) (nm : Str) (neg : Bool) : (ps.map pD).filter (fun d => if neg then !fstIsB nm d else fstIsB nm d) = (ps.filter fun q => if neg then decide (q.1 ≠ nm) else decide (q.1 = nm)).map pD := by
  rw [List.filter_map]
  congr 1
  refine List.filter_congr fun q _ => ?_
  show (if neg then !decide (q.1 = nm) else decide (q.1 = nm)) = _
  cases neg with
  | true => exact (decide_not (p := q.1 = nm)).symm
  | false => rfl
theorem evdf_fstB {K : PySem.W.Frag} {tl tb : TE} {r : R2} {σ : L2.St} {H : Hp} {j : Nat} {lp : Addr} {ps : List Pr} {nm : Str} (neg : Bool) (hr : ∀ (s t : Str) (H : Hp), RV r (.str s) (.str t) H (.bl (if neg then !decide (V.str s = .str t) else decide (V.str s = .str t)))) (hl : Ev tl σ H (.ref lp)) (hp : Dt H (.ref lp) (.list (ps.map pD))) (hz : ps.length ≤ 1000) (hj : ∀ x, wipe ((wipe σ [j]).set j (some x)) [j] = wipe σ [j]) (hjl : j < σ.length) (hwl : (wipe σ [j]).length = σ.length) (ha : ∀ x H1, Ex H H1 → Ev tb ((wipe σ [j]).set j (some x)) H1 (.str nm)) :
    EvDF (tLc (iList K tl) (gName j) (tTest (tOp r (tOp (rIxT K) (tVar j) (tC (.int 0))) tb)) (tVar j) [j]) σ H (.list ((ps.filter fun q => if neg then decide (q.1 ≠ nm) else decide (q.1 = nm)).map pD)) := by
  obtain ⟨_, xs, e', hx, hd⟩ := dt_lst hp
  cases e'
  have lx := dtAll_len hd
  rw [List.length_map] at lx
  rw [← fst_filterB]
  refine evdf_filter (fun d => if neg then !fstIsB nm d else fstIsB nm d) hl hx hd (by omega) hj hjl hwl fun x d H1 e1 hxd hmem => ?_
  obtain ⟨q0, hq0, rfl⟩ := List.mem_map.mp hmem
  obtain ⟨T, rfl, hT⟩ := pD_refB hxd
  have h1 : ((wipe σ [j]).set j (some (V.ref T)))[j]? = some (some (.ref T)) := List.getElem?_set_self (by rw [hwl]; exact hjl)
  refine et_is (et_test (ev_op (ev_op (ev_var h1) ev_c (rv_ixT (st_of hT) (atI_nat (j := 0) rfl))) (ha _ H1 e1) (hr _ _ _))) ?_
  have ed : decide (V.str q0.1 = V.str nm) = decide (q0.1 = nm) := decide_eq_decide.mpr ⟨fun z => V.str.inj z, fun z => by rw [z]⟩
  rw [ed]
  rfl
end Cr
/-! distances to a goal, and the path that goes nearer at each step by the least name -/
namespace Cr
open PySem PySem.Spec PyProof.Rows L2
/-- paths, told from their heads -/
inductive CP (T : Str → List Str) : Str → List Str → Prop
  | one {n : Str} : CP T n [n]
  | cons {n t : Str} {p : List Str} : t ∈ T n → CP T t p → CP T n (n :: p)
section
variable {T : Str → List Str} {n b t : Str} {p r : List Str}
theorem CP.head (h : CP T n p) : ∃ q, p = n :: q := by cases h <;> exact ⟨_, rfl⟩
theorem CP.pos (h : CP T n p) : 0 < p.length := by cases h <;> simp
theorem CP.snoc (h : CP T n p) (m : t ∈ T (lastP p)) : CP T n (p ++ [t]) := by
  induction h with
  | one => exact .cons m .one
  | @cons n u p hu hp ih =>
    obtain ⟨q, rfl⟩ := hp.head
    exact .cons hu (ih m)
theorem IsPath.cp (h : IsPath T n p) : CP T n p := by
  induction h with
  | one => exact .one
  | more _ m ih => exact ih.snoc m
theorem IsPath.front (m : t ∈ T n) (h : IsPath T t p) : IsPath T n (n :: p) := by
  induction h with
  | one => exact .more (p := [n]) .one m
  | @more p u hp hu ih =>
    have hp' := hp.cp
    obtain ⟨q, rfl⟩ := hp'.head
    exact .more (p := n :: t :: q) ih hu
theorem CP.isPath (h : CP T n p) : IsPath T n p := by
  induction h with
  | one => exact .one
  | cons m _ ih => exact ih.front m
/-! ### distances -/
structure Dist (T : Str → List Str) (b : Str) (d : Str → Option Nat) : Prop where
  zero : ∀ n, d n = some 0 ↔ n = b
  down : ∀ n k, d n = some (k + 1) → ∃ t ∈ T n, d t = some k
  near : ∀ n t k, t ∈ T n → d t = some k → ∃ j, d n = some j ∧ j ≤ k + 1
variable {d : Str → Option Nat}
theorem Dist.of (D : Dist T b d) (h : CP T n p) (e : lastP p = b) : ∃ j, d n = some j ∧ j + 1 ≤ p.length := by
  induction h with
  | one => exact ⟨0, (D.zero _).mpr e, Nat.le_refl _⟩
  | @cons n t p m hp ih =>
    obtain ⟨q, rfl⟩ := hp.head
    obtain ⟨j, h1, h2⟩ := ih e
    obtain ⟨i, h3, h4⟩ := D.near n t j m h1
    exact ⟨i, h3, by rw [List.length_cons]; omega⟩
/-- nearer at each step, by the least name that is -/
inductive Gr (T : Str → List Str) (d : Str → Option Nat) : Nat → Str → List Str → Prop
  | zero {n : Str} : Gr T d 0 n [n]
  | succ {n t : Str} {k : Nat} {p : List Str} : t ∈ T n → d t = some k → (∀ u ∈ T n, d u = some k → t = u ∨ ltS t u) → Gr T d k t p → Gr T d (k + 1) n (n :: p)
theorem Gr.head {k : Nat} (h : Gr T d k n p) : ∃ q, p = n :: q := by cases h <;> exact ⟨_, rfl⟩
theorem Gr.cp {k : Nat} (h : Gr T d k n p) : CP T n p ∧ p.length = k + 1 := by
  induction h with
  | zero => exact ⟨.one, rfl⟩
  | succ m _ _ _ ih => exact ⟨.cons m ih.1, by rw [List.length_cons, ih.2]⟩
theorem Gr.last {k : Nat} (D : Dist T b d) (h : Gr T d k n p) (hn : d n = some k) : lastP p = b := by
  induction h with
  | zero => exact (D.zero _).mp hn
  | @succ n t k p m hd _ g ih =>
    obtain ⟨q, rfl⟩ := g.head
    exact ih hd
theorem sle_cons (n : Str) (h : sle p r) : sle (n :: p) (n :: r) := by
  rcases h with rfl | h | ⟨e, h⟩
  · exact .inl rfl
  · exact .inr (.inl (by simpa using h))
  · exact .inr (.inr ⟨by simpa using e, .inr ⟨rfl, h⟩⟩)
theorem Gr.least {k : Nat} (D : Dist T b d) (h : Gr T d k n p) (hn : d n = some k) (hr : CP T n r) (e : lastP r = b) : sle p r := by
  induction h generalizing r with
  | zero =>
    cases hr with
    | one => exact .inl rfl
    | cons m hp => exact .inr (.inl (by have := hp.pos; simp only [List.length_cons, List.length_nil]; omega))
  | @succ n t k p m hd least g ih =>
    have gl := g.cp.2
    cases hr with
    | one =>
      have z := (D.zero n).mpr e
      rw [hn] at z
      cases z
    | @cons _ t' r' m' hr' =>
      obtain ⟨q', rfl⟩ := hr'.head
      obtain ⟨j, h1, h2⟩ := D.of hr' e
      obtain ⟨i, h3, h4⟩ := D.near n t' j m' h1
      rw [hn] at h3
      cases h3
      by_cases hl : (t' :: q').length = k + 1
      · have ej : j = k := by omega
        subst ej
        rcases least t' m' h1 with rfl | lt
        · exact sle_cons n (ih hd hr' e)
        · obtain ⟨q, rfl⟩ := g.head
          refine .inr (.inr ⟨?_, .inr ⟨rfl, .inl lt⟩⟩)
          rw [List.length_cons, gl, List.length_cons, hl]
      · refine .inr (.inl ?_)
        rw [List.length_cons, gl, List.length_cons]
        omega
theorem sle_anti (h1 : sle p r) (h2 : sle r p) : p = r := by
  rcases h1 with rfl | h1
  · rfl
  · rcases h2 with rfl | h2
    · rfl
    · exact absurd (sl_trans h1 h2) (sl_irrefl p)
/-- what the search finds is that path -/
theorem Gr.found {k i : Nat} (D : Dist T b d) (h : Gr T d k n p) (hn : d n = some k) (hT : ∀ s, (T s).Pairwise ltS) (hi : (runP T n i).length ≤ i) : (runP T n i).find? (fun r => decide (lastP r = b)) = some p := by
  obtain ⟨r, h1, h2⟩ := find_least hT hi (fun z => decide (z = b)) h.cp.1.isPath (decide_eq_true (h.last D hn))
  have hm := List.mem_of_find?_eq_some h1
  have e : lastP r = b := of_decide_eq_true (List.find?_some (p := fun r => decide (lastP r = b)) h1)
  have hp := (run_path (T := T) (a := n) i r hm).1
  rw [sle_anti (h.least D hn hp.cp e) h2]
  exact h1
theorem Dist.reach (D : Dist T b d) (h : Reach T n b) : ∃ k, d n = some k := by
  have go : ∀ {m : Str}, Reach T n m → ∀ j, d m = some j → ∃ k, d n = some k := by
    intro m r
    induction r with
    | refl => exact fun j h => ⟨j, h⟩
    | @step c t _ m ih =>
      intro j hj
      obtain ⟨i, h1, _⟩ := D.near _ _ j m hj
      exact ih i h1
  exact go h 0 ((D.zero b).mpr rfl)
theorem Dist.back (D : Dist T b d) : ∀ {k : Nat} {n : Str}, d n = some k → Reach T n b
  | 0, n, h => by rw [(D.zero n).mp h]; exact .refl
  | k + 1, n, h => by
    obtain ⟨t, m, ht⟩ := D.down n k h
    have go : ∀ {c : Str}, Reach T t c → Reach T n c := by
      intro c r
      induction r with
      | refl => exact .step .refl m
      | step _ m2 ih => exact .step ih m2
    exact go (D.back ht)
end
/-! ### the levels that the law finds -/
structure Lev (T : Str → List Str) (b : Str) (k : Nat) (F : List (Str × Nat)) (cur : List Str) : Prop where
  nd : (F.map (·.1)).Nodup
  le : ∀ e ∈ F, e.2 ≤ k
  low : ∀ n, n ∈ cur ↔ (n, k) ∈ F
  curNd : cur.Nodup
  zero : ∀ n, (n, 0) ∈ F ↔ n = b
  down : ∀ n j, (n, j + 1) ∈ F → ∃ t ∈ T n, (t, j) ∈ F
  near : ∀ n t j, t ∈ T n → (t, j) ∈ F → j < k → ∃ i, (n, i) ∈ F ∧ i ≤ j + 1
theorem lev0 (T : Str → List Str) (b : Str) : Lev T b 0 [(b, 0)] [b] where
  nd := by simp
  le := fun e h => by rw [List.mem_singleton.mp h]; exact Nat.le_refl _
  low := fun n => by rw [List.mem_singleton, List.mem_singleton]; exact ⟨fun h => by rw [h], fun h => (Prod.mk.inj h).1⟩
  curNd := by simp
  zero := fun n => by rw [List.mem_singleton]; exact ⟨fun h => (Prod.mk.inj h).1, fun h => by rw [h]⟩
  down := fun n j h => by rw [List.mem_singleton] at h; exact absurd (Prod.mk.inj h).2 (Nat.succ_ne_zero j)
  near := fun n t j _ _ h => absurd h (Nat.not_lt_zero _)
section
variable {T : Str → List Str} {b : Str} {k : Nat} {F : List (Str × Nat)} {cur new : List Str}
theorem Lev.key (L : Lev T b k F cur) {n : Str} {i j : Nat} (h1 : (n, i) ∈ F) (h2 : (n, j) ∈ F) : i = j := by
  have nd := L.nd
  clear L
  induction F with
  | nil => exact nomatch h1
  | cons e r ih =>
    rw [List.map_cons, List.nodup_cons] at nd
    rcases List.mem_cons.mp h1 with h1 | h1
    · rcases List.mem_cons.mp h2 with h2 | h2
      · rw [← h1] at h2; exact (Prod.mk.inj h2).2.symm
      · exact absurd (List.mem_map.mpr ⟨_, h2, by rw [← h1]⟩) nd.1
    · rcases List.mem_cons.mp h2 with h2 | h2
      · exact absurd (List.mem_map.mpr ⟨_, h1, by rw [← h2]⟩) nd.1
      · exact ih h1 h2 nd.2
theorem Lev.next (L : Lev T b k F cur) (nn : new.Nodup) (hm : ∀ n, n ∈ new ↔ ((∃ t ∈ T n, t ∈ cur) ∧ n ∉ F.map (·.1))) : Lev T b (k + 1) (F ++ new.map fun n => (n, k + 1)) new := by
  have old : ∀ {n : Str} {j : Nat}, (n, j) ∈ F ++ new.map (fun n => (n, k + 1)) ↔ ((n, j) ∈ F ∨ (n ∈ new ∧ j = k + 1)) := by
    intro n j
    rw [List.mem_append, List.mem_map]
    exact or_congr Iff.rfl ⟨fun ⟨x, h1, h2⟩ => by cases h2; exact ⟨h1, rfl⟩, fun ⟨h1, h2⟩ => ⟨n, h1, by rw [h2]⟩⟩
  have em : (new.map fun n => (n, k + 1)).map (·.1) = new := by rw [List.map_map]; exact List.map_id _
  refine ⟨?_, fun e he => ?_, fun n => ?_, nn, fun n => ?_, fun n j h => ?_, fun n t j ht h hj => ?_⟩
  · rw [List.map_append, em]
    refine List.nodup_append.mpr ⟨L.nd, nn, fun a ha c hc e => ?_⟩
    rw [← e] at hc
    exact ((hm a).mp hc).2 ha
  · obtain ⟨n, j⟩ := e
    rcases old.mp he with h | ⟨_, h⟩
    · exact Nat.le_succ_of_le (L.le _ h)
    · exact Nat.le_of_eq h
  · rw [old]
    constructor
    · exact fun h => .inr ⟨h, rfl⟩
    · rintro (h | h)
      · exact absurd (L.le _ h) (Nat.not_succ_le_self k)
      · exact h.1
  · rw [old, L.zero]
    exact ⟨fun h => h.elim id fun z => absurd z.2.symm (Nat.succ_ne_zero k), .inl⟩
  · rcases old.mp h with h | ⟨h, e⟩
    · obtain ⟨t, h1, h2⟩ := L.down n j h
      exact ⟨t, h1, old.mpr (.inl h2)⟩
    · obtain ⟨⟨t, h1, h2⟩, _⟩ := (hm n).mp h
      cases e
      exact ⟨t, h1, old.mpr (.inl ((L.low t).mp h2))⟩
  · have hF : (t, j) ∈ F := by
      rcases old.mp h with h | ⟨_, e⟩
      · exact h
      · omega
    by_cases hk : j < k
    · obtain ⟨i, h1, h2⟩ := L.near n t j ht hF hk
      exact ⟨i, old.mpr (.inl h1), h2⟩
    · have ej : j = k := by have := L.le _ hF; show j = k; simp only at this; omega
      subst ej
      by_cases hn : n ∈ F.map (·.1)
      · obtain ⟨⟨m, i⟩, h1, rfl⟩ := List.mem_map.mp hn
        exact ⟨i, old.mpr (.inl h1), Nat.le_succ_of_le (L.le _ h1)⟩
      · exact ⟨j + 1, old.mpr (.inr ⟨(hm n).mpr ⟨⟨t, ht, (L.low t).mpr hF⟩, hn⟩, rfl⟩), Nat.le_refl _⟩
/-- what is kept of a name -/
def farOf (F : List (Str × Nat)) (n : Str) : Option Nat := (F.find? fun e => decide (e.1 = n)).map (·.2)
theorem Lev.far (L : Lev T b k F cur) {n : Str} {j : Nat} : farOf F n = some j ↔ (n, j) ∈ F := by
  unfold farOf
  constructor
  · intro h
    cases hf : F.find? fun e => decide (e.1 = n) with
    | none => rw [hf] at h; cases h
    | some e =>
      rw [hf] at h
      have h1 := List.mem_of_find?_eq_some hf
      have h2 : e.1 = n := of_decide_eq_true (List.find?_some (p := fun e : Str × Nat => decide (e.1 = n)) hf)
      obtain ⟨a, c⟩ := e
      cases h
      rw [← h2]
      exact h1
  · intro h
    cases hf : F.find? fun e => decide (e.1 = n) with
    | none =>
      have z := List.find?_eq_none.mp hf _ h
      exact absurd (decide_eq_true rfl) z
    | some e =>
      have h1 := List.mem_of_find?_eq_some hf
      have h2 : e.1 = n := of_decide_eq_true (List.find?_some (p := fun e : Str × Nat => decide (e.1 = n)) hf)
      obtain ⟨a, c⟩ := e
      have h2 : a = n := h2
      subst h2
      show some c = some j
      rw [L.key h1 h]
theorem Lev.dist (L : Lev T b k F []) : Dist T b (farOf F) where
  zero := fun n => L.far.trans (L.zero n)
  down := fun n j h => by
    obtain ⟨t, h1, h2⟩ := L.down n j (L.far.mp h)
    exact ⟨t, h1, L.far.mpr h2⟩
  near := fun n t j ht h => by
    have hF := L.far.mp h
    have lt : j < k := by
      rcases Nat.lt_or_eq_of_le (L.le _ hF) with h | h
      · exact h
      · have h' : j = k := h
        rw [h'] at hF
        exact absurd ((L.low t).mpr hF) (by simp)
    obtain ⟨i, h1, h2⟩ := L.near n t j ht hF lt
    exact ⟨i, L.far.mpr h1, h2⟩
end
end Cr
/-! the tables of sets, up to 512 slots: rows of a hash and its slot -/
namespace Cr
open PySem PySem.Spec PyProof.Rows L2
def Msk (m : Nat) : Prop := m = 7 ∨ m = 31 ∨ m = 127 ∨ m = 511
def orb (m : Nat) : Nat → Nat → List Nat
  | 0, _ => []
  | k + 1, i => i :: orb m k ((i * 5 + 1) % (m + 1))
theorem lcg_head (m i : Nat) : ∀ n, lcgI m ((i * 5 + 1) % (m + 1)) n = lcgI m i (n + 1)
  | 0 => rfl
  | n + 1 => congrArg (fun z => (z * 5 + 1) % (m + 1)) (lcg_head m i n)
theorem orb_mem (m : Nat) : ∀ k i j, j ∈ orb m k i → ∃ n, n < k ∧ lcgI m i n = j
  | 0, _, _, h => nomatch h
  | k + 1, i, j, h => by
    rcases List.mem_cons.mp h with rfl | h
    · exact ⟨0, Nat.succ_pos k, rfl⟩
    · obtain ⟨n, hn, e⟩ := orb_mem m k _ j h
      exact ⟨n + 1, Nat.succ_lt_succ hn, (lcg_head m i n).symm.trans e⟩
def orbOk (m : Nat) : Bool := ((List.range (m + 1)).all fun j => (orb m (m + 1) 0).contains j) && lcgI m 0 (m + 1) == 0
theorem orb7 : orbOk 7 = true := by decide +kernel
theorem orb31 : orbOk 31 = true := by decide +kernel
theorem orb127 : orbOk 127 = true := by decide +kernel
theorem orb511 : orbOk 511 = true := by decide +kernel
theorem Msk.orb {m : Nat} (h : Msk m) : orbOk m = true := by
  rcases h with rfl | rfl | rfl | rfl
  · exact orb7
  · exact orb31
  · exact orb127
  · exact orb511
theorem Msk.odd {m : Nat} (h : Msk m) : m % 2 = 1 := by rcases h with rfl | rfl | rfl | rfl <;> rfl
theorem Msk.le {m : Nat} (h : Msk m) : m ≤ 511 := by rcases h with rfl | rfl | rfl | rfl <;> decide
theorem lcg_cat (m i : Nat) (a : Nat) : ∀ b, lcgI m (lcgI m i a) b = lcgI m i (a + b)
  | 0 => rfl
  | b + 1 => congrArg (fun z => (z * 5 + 1) % (m + 1)) (lcg_cat m i a b)
/-- a round of the leaps meets every slot -/
theorem Msk.round {m : Nat} (h : Msk m) {i j : Nat} (hi : i ≤ m) (hj : j ≤ m) : ∃ n, n ≤ m ∧ lcgI m i n = j := by
  have ok := h.orb
  unfold orbOk at ok
  rw [Bool.and_eq_true, List.all_eq_true, beq_iff_eq] at ok
  have from0 : ∀ x, x ≤ m → ∃ n, n < m + 1 ∧ lcgI m 0 n = x := fun x hx =>
    orb_mem m _ _ _ (List.contains_iff_mem.mp (ok.1 x (List.mem_range.mpr (Nat.lt_succ_of_le hx))))
  obtain ⟨a, la, rfl⟩ := from0 i hi
  obtain ⟨b, lb, rfl⟩ := from0 j hj
  by_cases c : a ≤ b
  · exact ⟨b - a, by omega, by rw [lcg_cat]; congr 1; omega⟩
  · refine ⟨(m + 1 - a) + b, by omega, ?_⟩
    rw [lcg_cat, show a + (m + 1 - a + b) = (m + 1) + b by omega, ← lcg_cat, ok.2]
theorem Msk.starts {m : Nat} (hm : Msk m) (h : Int) {j : Nat} (hj : j ≤ m) : ∃ n, n ≤ m + 12 ∧ runI m (SetTable.bits h) n = j := by
  obtain ⟨n, ln, e⟩ := hm.round (runI_le m (SetTable.bits h) 12) hj
  refine ⟨12 + n, by omega, ?_⟩
  rw [runI_tail (bits_lt h), e]
theorem Msk.meets {m : Nat} (hm : Msk m) (h : Int) {j : Nat} (hj : j ≤ m) : ∃ k, k < 10 * SetTable.turns m ∧ way m h k = j := by
  obtain ⟨n, ln, e⟩ := hm.starts h hj
  obtain ⟨k, lk, e2⟩ := run_nth m (SetTable.bits h) n
  refine ⟨k, ?_, (congrArg SetTable.Probe.j e2).trans e⟩
  unfold SetTable.turns
  omega
theorem way_low (m : Nat) (h : Int) (k : Nat) : way m h k ≤ m := by
  have lo : SetTable.bits h % (m + 1) < m + 1 := Nat.mod_lt _ (Nat.succ_pos m)
  have z := nth_in (m := m) k (runAt m (SetTable.bits h % (m + 1)) (SetTable.bits h)) (by
    have r := runEnd_bd (Nat.le_of_lt_succ lo)
    unfold runAt
    dsimp only
    omega)
  exact Nat.le_trans (Nat.le_add_right _ _) z
/-- the first step of the way at which p -/
theorem first_slot {p : Nat → Prop} (n : Nat) (hn : p n) : ∃ k, k ≤ n ∧ p k ∧ ∀ c, c < k → ¬ p c := st_least n hn
/-! ### a table and its rows -/
structure Tbl (t : SetTable) (ps : List (Int × Nat)) : Prop where
  at_ : t.place.toList = ps.map (·.2)
  up : Ris (ps.map (·.2))
  nodm : t.dummies = #[]
  msk : Msk t.mask
  low : ∀ p ∈ ps, p.2 ≤ t.mask
  goes : ∀ p ∈ ps, ∃ k, way t.mask p.1 k = p.2 ∧ ∀ c, c < k → way t.mask p.1 c ∈ ps.map (·.2)
section
variable {t : SetTable} {ps : List (Int × Nat)}
theorem Tbl.size (T : Tbl t ps) : t.place.size = ps.length := by
  have z := congrArg List.length T.at_
  rwa [Array.length_toList, List.length_map] at z
theorem Tbl.ris (T : Tbl t ps) : Ris t.place.toList := by rw [T.at_]; exact T.up
theorem Tbl.fits (T : Tbl t ps) (h : ps.length ≤ t.mask) : t.fits ps.length = true := by
  unfold SetTable.fits SetTable.fill
  rw [T.nodm, T.size]
  simp
  exact h
theorem Tbl.free (T : Tbl t ps) (hl : ps.length ≤ t.mask) (h : Int) : ∃ K, K < 10 * SetTable.turns t.mask ∧ way t.mask h K ∉ ps.map (·.2) ∧ ∀ c, c < K → way t.mask h c ∈ ps.map (·.2) := by
  obtain ⟨j, hj, hn⟩ := st_missing (ps.map (·.2)) (t.mask + 1) (by rw [List.length_map]; omega)
  obtain ⟨k, lk, e⟩ := T.msk.meets h (Nat.le_of_lt_succ hj)
  obtain ⟨K, l1, l2, l3⟩ := first_slot (p := fun c => way t.mask h c ∉ ps.map (·.2)) k (by show way t.mask h k ∉ _; rw [e]; exact hn)
  exact ⟨K, Nat.lt_of_le_of_lt l1 lk, l2, fun c hc => Classical.not_not.mp (l3 c hc)⟩
/-- a row's slot is met ahead of the first free one -/
theorem Tbl.ahead (T : Tbl t ps) {p : Int × Nat} (hp : p ∈ ps) {K : Nat} (hK : way t.mask p.1 K ∉ ps.map (·.2)) : ∃ c, c < K ∧ way t.mask p.1 c = p.2 := by
  obtain ⟨k, e, hb⟩ := T.goes p hp
  refine ⟨k, ?_, e⟩
  rcases Nat.lt_trichotomy k K with z | z | z
  · exact z
  · subst z
    exact absurd (List.mem_map.mpr ⟨p, hp, e.symm⟩) hK
  · exact absurd (hb K z) hK
abbrev ins {α : Type} (l : List α) (b : Nat) (x : α) : List α := l.take b ++ x :: l.drop b
theorem map_ins {α β : Type} (f : α → β) (l : List α) (b : Nat) (x : α) : (ins l b x).map f = ins (l.map f) b (f x) := by
  unfold ins
  rw [List.map_append, List.map_cons, List.map_take, List.map_drop]
theorem ins_perm {α : Type} (l : List α) (b : Nat) (x : α) : (ins l b x).Perm (x :: l) := by
  have z : (ins l b x).Perm (x :: (l.take b ++ l.drop b)) := List.perm_middle
  rwa [List.take_append_drop] at z
/-- a row more -/
theorem Tbl.more (T : Tbl t ps) {h : Int} {K : Nat} (hK : way t.mask h K ∉ ps.map (·.2)) (hb : ∀ c, c < K → way t.mask h c ∈ ps.map (·.2)) :
    (t.put (way t.mask h K)).2 = SetTable.below t.place (way t.mask h K) ∧ Tbl (t.put (way t.mask h K)).1 (ins ps (SetTable.below t.place (way t.mask h K)) (h, way t.mask h K)) ∧
    (t.put (way t.mask h K)).1.mask = t.mask ∧ (t.put (way t.mask h K)).1.led = t.led := by
  have lo := way_low t.mask h K
  obtain ⟨j, ej⟩ : ∃ j, j = way t.mask h K := ⟨_, rfl⟩
  rw [← ej] at hK lo ⊢
  have nat : t.place[SetTable.below t.place j]? ≠ some j := fun e => hK (by
    rw [← T.at_]
    exact List.mem_of_getElem? (by rw [Array.getElem?_toList]; exact e))
  have pm := ins_perm ps (SetTable.below t.place j) (h, j)
  have pl : (t.put j).1.place.toList = (ins ps (SetTable.below t.place j) (h, j)).map (·.2) := by
    rw [put_place, map_ins, T.at_]
  have up : ∀ {x : Nat}, x ∈ ps.map (·.2) → x ∈ (ins ps (SetTable.below t.place j) (h, j)).map (·.2) := fun {x} hx =>
    (pm.map (·.2)).mem_iff.mpr (List.mem_cons_of_mem _ hx)
  refine ⟨rfl, ⟨pl, ?_, put_dm T.nodm j, T.msk, fun p hp => ?_, fun p hp => ?_⟩, rfl, rfl⟩
  · have z : Ris (t.put j).1.place.toList := ris_insert T.ris nat
    rwa [pl] at z
  · rcases List.mem_cons.mp (pm.mem_iff.mp hp) with rfl | hp
    · exact lo
    · exact T.low p hp
  · show ∃ k, way t.mask p.1 k = p.2 ∧ _
    rcases List.mem_cons.mp (pm.mem_iff.mp hp) with rfl | hp
    · exact ⟨K, ej.symm, fun c hc => up (hb c hc)⟩
    · obtain ⟨k, e, z⟩ := T.goes p hp
      exact ⟨k, e, fun c hc => up (z c hc)⟩
end
/-! ### all laid anew -/
theorem lay_free {m : Nat} (hm : Msk m) (ow : Array (Option Nat)) (h : Int) {j : Nat} (hj : j ≤ m) (e0 : oAt ow j = none) :
    ∃ K, SetTable.layClean.free m ow (SetTable.turns m) (SetTable.bits h % (m + 1)) (SetTable.bits h) = some (way m h K) ∧ oAt ow (way m h K) = none ∧ ∀ c, c < K → oAt ow (way m h c) ≠ none := by
  obtain ⟨n, ln, e⟩ := hm.starts h hj
  have at_ : way m h (off m (SetTable.bits h % (m + 1)) (SetTable.bits h) n) = j := by
    have z := nth_off m n (SetTable.bits h % (m + 1)) (SetTable.bits h)
    rw [itL_run] at z
    exact (congrArg SetTable.Probe.j z).trans e
  obtain ⟨K, l1, l2, l3⟩ := first_slot (p := fun c => oAt ow (way m h c) = none) _ (by show oAt ow (way m h _) = none; rw [at_]; exact e0)
  refine ⟨K, free_spec m ow (SetTable.turns m) n _ _ K (by unfold SetTable.turns; omega) l1 (fun c hc => ?_) (by rw [Option.isNone_iff_eq_none]; exact l2), l2, l3⟩
  rw [Option.isNone_eq_false_iff, Option.isSome_iff_ne_none]
  exact l3 c hc
theorem lay_one {m : Nat} (hm : Msk m) {done : List Int} {ow : Array (Option Nat)} (W : Own m done ow) (hl : done.length ≤ m) (h : Int) :
    ∃ j, SetTable.layClean.free m ow (SetTable.turns m) (SetTable.bits h % (m + 1)) (SetTable.bits h) = some j ∧ Own m (done ++ [h]) (ow.setIfInBounds j (some done.length)) := by
  obtain ⟨qs, lq, hq⟩ := W.ps
  obtain ⟨i, li, ni⟩ := st_missing qs (m + 1) (by omega)
  have ei : oAt ow i = none := Classical.not_not.mp fun z => ni (hq i (Nat.le_of_lt_succ li) z)
  obtain ⟨K, e1, e2, e3⟩ := lay_free hm ow h (Nat.le_of_lt_succ li) ei
  have lo := way_low m h K
  refine ⟨way m h K, e1, ?_⟩
  generalize ej : way m h K = j at e1 e2 lo ⊢
  have here : oAt (ow.setIfInBounds j (some done.length)) j = some done.length := oAt_set_self _ (by rw [W.sz]; omega)
  have there : ∀ {i : Nat}, i ≠ j → oAt (ow.setIfInBounds j (some done.length)) i = oAt ow i := fun z => oAt_set_ne _ z
  have kept : ∀ {i : Nat}, oAt ow i ≠ none → oAt (ow.setIfInBounds j (some done.length)) i ≠ none := fun {i} z => by
    have ne : i ≠ j := fun e => z (by rw [e]; exact e2)
    rw [there ne]
    exact z
  exact
    { sz := by rw [Array.size_setIfInBounds, W.sz]
      at_ := fun i k li e => by
        by_cases c : i = j
        · subst c
          rw [here] at e
          cases e
          exact ⟨h, K, by rw [List.getElem?_append_right (Nat.le_refl _), Nat.sub_self]; rfl, ej, fun c hc => kept (e3 c hc)⟩
        · rw [there c] at e
          obtain ⟨g, G, a1, a2, a3⟩ := W.at_ i k li e
          exact ⟨g, G, by rw [List.getElem?_append_left (List.getElem?_eq_some_iff.mp a1).1, a1], a2, fun c hc => kept (a3 c hc)⟩
      all := fun k hk => by
        rw [List.length_append, List.length_singleton] at hk
        by_cases c : k = done.length
        · exact ⟨j, lo, c ▸ here⟩
        · obtain ⟨i, li, e⟩ := W.all k (by omega)
          exact ⟨i, li, by rw [there fun z => by rw [z, e2] at e; cases e]; exact e⟩
      ps := ⟨j :: qs, by rw [List.length_cons, List.length_append, List.length_singleton, lq], fun i li z => by
        by_cases c : i = j
        · exact c ▸ List.mem_cons_self
        · rw [there c] at z
          exact List.mem_cons_of_mem _ (hq i li z)⟩ }
theorem lay_all {m : Nat} (hm : Msk m) : ∀ (rest done : List Int) (ow : Array (Option Nat)), Own m done ow → (done ++ rest).length ≤ m →
    ∃ ow', rest.foldl (stepF m) (some (ow, done.length)) = some (ow', (done ++ rest).length) ∧ Own m (done ++ rest) ow'
  | [], done, ow, W, _ => by
    rw [List.append_nil]
    exact ⟨ow, rfl, W⟩
  | h :: rest, done, ow, W, hl => by
    have ea : done ++ h :: rest = (done ++ [h]) ++ rest := by rw [List.append_assoc, List.singleton_append]
    rw [List.length_append, List.length_cons] at hl
    obtain ⟨j, e, W1⟩ := lay_one hm W (by omega) h
    obtain ⟨ow', f, W2⟩ := lay_all hm rest (done ++ [h]) _ W1 (by rw [← ea, List.length_append, List.length_cons]; omega)
    rw [List.length_append, List.length_singleton] at f
    rw [List.foldl_cons, stepF_some e, ea]
    exact ⟨ow', f, W2⟩
/-- laid anew in a larger table: an order of the rows, and where they stand -/
theorem lay_anew (t : SetTable) {hs : Array Int} {wanted M : Nat} (hw : SetTable.sizeAbove wanted - 1 = M) (hM : Msk M) (hn : hs.size ≤ M) :
    ∃ (t' : SetTable) (js : List (Nat × Nat)), t.relaid hs wanted = some (t', (js.map (·.2)).toArray) ∧ (js.map (·.2)).Perm (List.range hs.size) ∧ Tbl t' (js.map fun q => (hs.toList.getD q.2 0, q.1)) ∧ t'.mask = M ∧ t'.led = t.led := by
  obtain ⟨ow, f, W⟩ := lay_all hM hs.toList [] _ (Own.init M) (by rw [List.nil_append, Array.length_toList]; exact hn)
  rw [List.nil_append] at f W
  have lc : SetTable.layClean M hs = some ow := by
    rw [layClean_eq]
    exact congrArg (Option.map (·.1)) f
  have rel : t.relaid hs wanted = some (tabOf t M ow, ((liveOf M ow).map (·.2)).toArray) := by
    rw [relaid_eq, hw, lc]
    rfl
  obtain ⟨r1, r2⟩ := ris_live (fun j => ow.getD j none) (List.range (M + 1)) (List.pairwise_lt_range (n := M + 1))
  have up : Ris ((liveOf M ow).map (·.1)) := r1
  have once : ((liveOf M ow).map (·.1)).Nodup := List.Pairwise.imp Nat.ne_of_lt up
  have covers : ∀ k, k < hs.size → k ∈ (liveOf M ow).map (·.2) := fun k hk => by
    obtain ⟨j, lj, e⟩ := W.all k hk
    exact List.mem_map.mpr ⟨(j, k), (mem_live W.sz).mpr ⟨lj, e⟩, rfl⟩
  have len : (liveOf M ow).length = hs.size := by
    obtain ⟨qs, lq, hq⟩ := W.ps
    have a := nat_nodup_len _ qs once fun j hj => by
      obtain ⟨⟨j', k⟩, hm, rfl⟩ := List.mem_map.mp hj
      obtain ⟨l1, l2⟩ := (mem_live W.sz).mp hm
      exact hq _ l1 (by rw [l2]; exact Option.some_ne_none k)
    have b := nat_nodup_len (List.range hs.size) _ List.nodup_range fun k hk => covers k (List.mem_range.mp hk)
    rw [List.length_map] at a b
    rw [List.length_range] at b
    have lz : qs.length = hs.size := lq
    omega
  refine ⟨_, liveOf M ow, rel, perm_range _ _ (by rw [List.length_map]; exact len) covers, ?_, rfl, rfl⟩
  have seats : (liveOf M ow).map (·.1) = ((liveOf M ow).map fun q => (hs.toList.getD q.2 0, q.1)).map (·.2) := by rw [List.map_map]; rfl
  refine ⟨seats, seats ▸ up, rfl, hM, fun p hp => ?_, fun p hp => ?_⟩
  · obtain ⟨⟨j, k⟩, hm, rfl⟩ := List.mem_map.mp hp
    exact ((mem_live W.sz).mp hm).1
  · obtain ⟨⟨j, k⟩, hm, rfl⟩ := List.mem_map.mp hp
    obtain ⟨lj, e⟩ := (mem_live W.sz).mp hm
    obtain ⟨g, K, a1, a2, a3⟩ := W.at_ j k lj e
    have eg : hs.toList.getD k 0 = g := by rw [List.getD_eq_getElem?_getD, a1]; rfl
    show ∃ c, way M (hs.toList.getD k 0) c = j ∧ _
    rw [eg]
    refine ⟨K, a2, fun c hc => ?_⟩
    show way M g c ∈ _
    rw [← seats]
    obtain ⟨k2, e2⟩ := Option.ne_none_iff_exists'.mp (a3 c hc)
    exact List.mem_map.mpr ⟨(_, k2), (mem_live W.sz).mpr ⟨way_low M g c, e2⟩, rfl⟩
theorem grown5 : SetTable.sizeAbove (SetTable.grown 5) - 1 = 31 := by decide +kernel
theorem grown19 : SetTable.sizeAbove (SetTable.grown 19) - 1 = 127 := by decide +kernel
theorem grown77 : SetTable.sizeAbove (SetTable.grown 77) - 1 = 511 := by decide +kernel
end Cr
/-! sets of tuples of texts: a tuple is added -/
namespace Cr
open PySem PySem.Spec PyProof.Rows L2
abbrev IsTx (P : Program) (w : World) (h : Heap) (k : List Str) (a : Addr) : Prop := IsTupleKey (PySem.strKind P w) h k a
abbrev hTx (P : Program) (w : World) (k : List Str) : Int := tupleKeyHash (PySem.strKind P w) k
abbrev TRow := Addr × List Str
def rowV (P : Program) (w : World) (p : TRow) : Int × Value := (hTx P w p.2, .ref p.1)
/-- the c-th state of a search -/
abbrev pr (m : Nat) (h : Int) (c : Nat) : SetTable.Probe := nth m (runAt m (SetTable.bits h % (m + 1)) (SetTable.bits h)) c
theorem pr_add (m : Nat) (h : Int) (c q : Nat) : nth m (pr m h c) q = pr m h (c + q) := (nth_add m c _ q).symm
theorem pr_dm (m : Nat) (h : Int) : ∀ c, (pr m h c).dummy = none
  | 0 => rfl
  | c + 1 => by
    have z := pr_dm m h c
    show (nth m _ (c + 1)).dummy = none
    rw [nth_succ]
    unfold adv
    split <;> exact z
section
variable {P : Program} {w : World} {A : Around} {E : Value → Shared → Prop} {s : Shared}
theorem tx_items {k : List Str} {vs : List Value} (h : ItemsAre (PySem.strKind P w) k vs) : ∀ v ∈ vs, ∃ x tk, v = Value.str x tk := by
  induction h with
  | nil => exact fun v hv => nomatch hv
  | cons h1 _ ih =>
    intro v hv
    rcases List.mem_cons.mp hv with rfl | hv
    · cases v with
      | str x tk => exact ⟨x, tk, rfl⟩
      | _ => cases h1
    · exact ih v hv
theorem tx_class {k : List Str} {b : Addr} {Q : Bool → Shared → Prop} (hk : IsTx P w s.heap k b) (h : Q false s) : wpAny (model P w) A (ofAClassStatement 8 (.ref b)) Q E s := by
  have ty := hk.typeIs
  obtain ⟨o, items, n, ho, _, hd, hi⟩ := hk
  have all := tx_items hi
  unfold ofAClassStatement
  refine wpAny_bind (wpAny_typeOf ty ?_)
  simp only [show (("tuple" : String) == "tuple") = true from rfl, if_true]
  try refine wpAny_bind (wpAny_pure ?_)
  try simp only [Bool.not_true, Bool.false_eq_true, if_false]
  refine wpAny_bind (wpAny_seqItems ho hd (wpAny_bind ?_))
  rw [← Array.forIn_toList]
  refine wpAny_forIn_list _ (fun rest r s' => (s' = s ∧ r.1 = none) ∧ ∀ v ∈ rest, ∃ x tk, v = Value.str x tk) _ (fun v rest r s' z => ?_) (fun r s' z => ?_) _ _ ⟨⟨rfl, rfl⟩, all⟩
  · obtain ⟨⟨rfl, _⟩, c⟩ := z
    obtain ⟨x, tk, rfl⟩ := c v List.mem_cons_self
    exact wpAny_bind (wpAny_pure (wpAny_pure ⟨⟨rfl, rfl⟩, fun u hu => c u (List.mem_cons_of_mem _ hu)⟩))
  · obtain ⟨⟨rfl, e⟩, _⟩ := z
    rcases r with ⟨r1, r2⟩
    cases e
    exact wpAny_pure h
theorem tx_byValue {k : List Str} {b : Addr} {Q : Bool → Shared → Prop} (hk : IsTx P w s.heap k b) (h : ∀ z, Q z s) : wpAny (model P w) A (hashByValue 8 (.ref b)) Q E s := by
  have ty := hk.typeIs
  obtain ⟨o, items, n, ho, _, hd, hi⟩ := hk
  have all := tx_items hi
  unfold hashByValue
  refine wpAny_bind (wpAny_specialOf ty F.slot_tuple_hash.lookup ?_)
  show wpAny _ _ (seqItems? (.ref b) >>= _) _ _ s
  refine wpAny_bind (wpAny_seqItems ho hd (wpAny_bind ?_))
  show wpAny _ _ (forIn items _ _) _ _ s
  rw [← Array.forIn_toList]
  cases hz : items.toList with
  | nil => exact wpAny_pure (wpAny_pure (h true))
  | cons v rest =>
    obtain ⟨x, tk, rfl⟩ := all v (by rw [hz]; exact List.mem_cons_self)
    rw [List.forIn_cons]
    refine wpAny_bind (wpAny_bind (wpAny_pure ?_))
    exact wpAny_pure (wpAny_pure (wpAny_pure (h false)))
/-- nothing is seen of a search -/
theorem tx_unseen {k : List Str} {b : Addr} {Q : Bool → Shared → Prop} (hk : IsTx P w s.heap k b) {ys : List Value} (hy : ∀ y ∈ ys, ∃ g c, y = Value.ref c ∧ IsTx P w s.heap g c) (h : Q false s) :
    wpAny (model P w) A (searchCouldBeSeen (.ref b) ys) Q E s := by
  unfold searchCouldBeSeen
  refine wpAny_bind (wpAny_forIn_list _ (fun rest r s' => (s' = s ∧ r.1 = none) ∧ ∀ y ∈ rest, ∃ g c, y = Value.ref c ∧ IsTx P w s.heap g c) _ (fun v rest r s' z => ?_) (fun r s' z => ?_) _ _ ⟨⟨rfl, rfl⟩, hy⟩)
  · obtain ⟨⟨rfl, _⟩, all⟩ := z
    obtain ⟨g, c, rfl, hc⟩ := all v List.mem_cons_self
    have tl : ∀ y ∈ rest, ∃ g c, y = Value.ref c ∧ IsTx P w s'.heap g c := fun u hu => all u (List.mem_cons_of_mem _ hu)
    dsimp only
    by_cases q : (b == c || (carriedByValue (.ref b) && carriedByValue (.ref c))) = true
    · exact wp_if_pos q (wpAny_pure ⟨⟨rfl, rfl⟩, tl⟩)
    · refine wp_if_neg q (wpAny_bind (wpAny_eqIsQuiet_tuple hk (wp_if_neg Bool.false_ne_true ?_)))
      refine wpAny_bind (wpAny_eqIsQuiet_tuple hc (wp_if_neg Bool.false_ne_true ?_))
      refine wpAny_bind (tx_class hk (wp_if_neg Bool.false_ne_true ?_))
      refine wpAny_bind (tx_class hc (wp_if_neg Bool.false_ne_true ?_))
      exact wpAny_pure ⟨⟨rfl, rfl⟩, tl⟩
  · obtain ⟨⟨rfl, e⟩, _⟩ := z
    rcases r with ⟨r1, r2⟩
    cases e
    exact wpAny_pure h
end
/-- the set at a, its rows in the order of their slots -/
structure TSet (P : Program) (w : World) (h : Heap) (a : Addr) (L : List TRow) (es : Array (Int × Value)) (ep : Nat) (t : SetTable) (ps : List (Int × Nat)) : Prop where
  ob : ∃ o, h.get? a = some o ∧ o.ExactSet ∧ o.data = .set es ep t
  rows : es.toList = L.map (rowV P w)
  tbl : Tbl t ps
  hash : ps.map (·.1) = L.map fun p => hTx P w p.2
  once : (L.map (·.2)).Nodup
  tup : ∀ p ∈ L, IsTx P w h p.2 p.1
  led : w.params.followText "set-order" = true ∨ t.led = true
  room : L.length * 5 < t.mask * 3
section
variable {P : Program} {w : World} {A : Around} {E : Value → Shared → Prop} {s : Shared} {a : Addr} {L : List TRow} {es : Array (Int × Value)} {ep : Nat} {t : SetTable} {ps : List (Int × Nat)}
theorem TSet.len {h : Heap} (R : TSet P w h a L es ep t ps) : ps.length = L.length ∧ es.size = L.length := by
  have z1 := congrArg List.length R.hash
  have z2 := congrArg List.length R.rows
  rw [List.length_map, List.length_map] at z1
  rw [List.length_map, Array.length_toList] at z2
  exact ⟨z1, z2⟩
theorem TSet.fits {h : Heap} (R : TSet P w h a L es ep t ps) : t.fits es.size = true := by
  have ⟨l1, l2⟩ := R.len
  have rm := R.room
  rw [l2, ← l1]
  exact R.tbl.fits (by omega)
theorem TSet.entry {h : Heap} (R : TSet P w h a L es ep t ps) {i : Nat} {p : TRow} (e : L[i]? = some p) : es[i]? = some (rowV P w p) := by
  rw [← Array.getElem?_toList, R.rows, List.getElem?_map, e]
  rfl
/-- what stands in the i-th slot -/
theorem TSet.row {h : Heap} (R : TSet P w h a L es ep t ps) {i j : Nat} (e : t.place.toList[i]? = some j) : ∃ p, L[i]? = some p := by
  rw [R.tbl.at_, List.getElem?_map, Option.map_eq_some_iff] at e
  obtain ⟨q, e, _⟩ := e
  have lt := (List.getElem?_eq_some_iff.mp e).1
  rw [R.len.1] at lt
  exact ⟨_, List.getElem?_eq_getElem lt⟩
theorem TSet.slot {h : Heap} (R : TSet P w h a L es ep t ps) {i : Nat} {p : TRow} (e : L[i]? = some p) : ∃ q, ps[i]? = some q ∧ q.1 = hTx P w p.2 ∧ t.place.toList[i]? = some q.2 := by
  have z := congrArg (fun l => l[i]?) R.hash
  rw [List.getElem?_map, List.getElem?_map, e] at z
  obtain ⟨q, e1, e2⟩ := Option.map_eq_some_iff.mp z
  refine ⟨q, e1, e2, ?_⟩
  rw [R.tbl.at_, List.getElem?_map, e1]
  rfl
theorem TSet.find (R : TSet P w s.heap a L es ep t ps) {x : Addr} {k : List Str} (hx : IsTx P w s.heap k x) (hu : A.units < cLine) {K : Nat} (hKf : K < 10 * SetTable.turns t.mask)
    (hK : way t.mask (hTx P w k) K ∉ ps.map (·.2)) (hKb : ∀ c, c < K → way t.mask (hTx P w k) c ∈ ps.map (·.2)) {Q : SetFound → Shared → Prop}
    (hin : k ∈ L.map (·.2) → Q (.there none) s) (hout : k ∉ L.map (·.2) → Q (.free (way t.mask (hTx P w k) K) false) s) :
    ∀ (f c : Nat) (st : Option SetTable.Probe), st.getD (t.probeStart (hTx P w k)) = pr t.mask (hTx P w k) c → c ≤ K → K - c < f →
      (∀ (d i : Nat) (p : TRow), d < c → t.place.toList[i]? = some (way t.mask (hTx P w k) d) → L[i]? = some p → p.2 ≠ k) →
      wpAny (model P w) A (setSearchFrom a (.ref x) (hTx P w k) true f st) Q E s
  | 0, _, _, _, _, lf, _ => nomatch lf
  | f + 1, c, st, est, lc, lf, past => by
    obtain ⟨o, ho, hex, hd⟩ := R.ob
    have state : ∀ {Z : Array (Int × Value) × Nat × SetTable → Shared → Prop}, Z (es, ep, t) s → wpAny (model P w) A (setState a) Z E s := fun z => wpAny_setState_of ho hd R.fits z
    have ris := R.tbl.ris
    have at_ : ∀ q, (nth t.mask (pr t.mask (hTx P w k) c) q).j = way t.mask (hTx P w k) (c + q) := fun q => congrArg SetTable.Probe.j (pr_add _ _ c q)
    have hs : ∀ (i : Nat) (p : TRow), L[i]? = some p → (es[i]?.map (·.1)).getD 0 = hTx P w p.2 := fun i p e => by rw [R.entry e]; rfl
    rw [setSearchFrom_succ]
    refine wpAny_bind (state (wp_if_neg ?_ ?_))
    · unfold SetTable.gaveWay
      rw [R.tbl.msk.odd]
      decide
    try refine wpAny_bind (wpAny_pure ?_)
    rcases go_spec t ris R.tbl.nodm (fun i => (es[i]?.map (·.1)).getD 0) (hTx P w k) (10 * SetTable.turns t.mask) (K - c) (pr t.mask (hTx P w k) c) (pr_dm _ _ c) (by omega)
      (fun q lq => by rw [at_, R.tbl.at_]; exact hKb _ (by omega)) (by rw [at_, R.tbl.at_, show c + (K - c) = K by omega]; exact hK) with ⟨q, i, lq, hi, hh, no, met⟩ | ⟨no, met⟩
    · -- one with this hash
      rw [at_] at hi
      have met2 : t.probe (fun i => (es[i]?.map (·.1)).getD 0) (hTx P w k) (st.getD (t.probeStart (hTx P w k))) = some (.candidate (way t.mask (hTx P w k) (c + q)) i (pr t.mask (hTx P w k) (c + (q + 1)))) := by
        rw [est, ← at_ q, ← pr_add]
        exact met
      rw [met2]
      obtain ⟨p, hp⟩ := R.row hi
      have mem : p ∈ L := List.mem_of_getElem? hp
      have live : t.slot (way t.mask (hTx P w k) (c + q)) = .live i := slot_live ris hi
      have on : wpAny (model P w) A (searchRest a (.ref x) (hTx P w k) true f es t (way t.mask (hTx P w k) (c + q)) i (pr t.mask (hTx P w k) (c + (q + 1)))) Q E s := by
        unfold searchRest
        rw [R.entry hp]
        refine wpAny_bind (wpAny_holding (wpAny_eqBool_tuple hu (R.tup p mem) hx (wpAny_bind (state ?_))))
        by_cases same : p.2 = k
        · exact wp_if_pos (by simp [same]) (wpAny_pure (hin (List.mem_map.mpr ⟨p, mem, same⟩)))
        · refine wp_if_neg (by simp [same]) ?_
          try refine wpAny_bind (wpAny_pure ?_)
          rw [sameMem]
          simp only [if_true, live, R.entry hp]
          refine wpAny_bind (wpAny_isSame_ref_self (wpAny_bind (wpAny_pure ?_)))
          simp only [if_true]
          refine wp_if_neg (by simp [same]) (TSet.find R hx hu hKf hK hKb hin hout f (c + (q + 1)) _ rfl (by omega) (by omega) fun d i2 p2 ld hi2 hp2 e2 => ?_)
          by_cases l1 : d < c
          · exact past d i2 p2 l1 hi2 hp2 e2
          · by_cases l2 : d = c + q
            · subst l2
              have z := slot_live ris hi2
              rw [live] at z
              cases z
              rw [hp] at hp2
              cases hp2
              exact same e2
            · exact no (d - c) i2 (by omega) (by rw [at_, show c + (d - c) = d by omega]; exact hi2) (by rw [hs i2 p2 hp2, e2])
      by_cases ld : t.led = true
      · refine wp_if_neg (by simp [ld]) ?_
        try refine wpAny_bind (wpAny_pure ?_)
        exact on
      · refine wp_if_pos (by simp [ld]) (wpAny_bind (tx_unseen hx (fun y hy => ?_) (wp_if_neg Bool.false_ne_true ?_)))
        · obtain ⟨e, he, rfl⟩ := List.mem_map.mp hy
          have he2 : e ∈ es.toList := by
            have z : e ∈ es ∧ e.1 = hTx P w k := by simpa using he
            simpa using z.1
          rw [R.rows] at he2
          obtain ⟨p2, hp2, rfl⟩ := List.mem_map.mp he2
          exact ⟨p2.2, p2.1, rfl, R.tup p2 hp2⟩
        · try refine wpAny_bind (wpAny_pure ?_)
          exact on
    · -- none
      have met2 : t.probe (fun i => (es[i]?.map (·.1)).getD 0) (hTx P w k) (st.getD (t.probeStart (hTx P w k))) = some (.empty (way t.mask (hTx P w k) K) none) := by
        rw [est]
        refine Eq.trans met ?_
        rw [at_, show c + (K - c) = K by omega]
      rw [met2]
      refine wpAny_pure (hout fun z => ?_)
      obtain ⟨p, hp, e⟩ := List.mem_map.mp z
      obtain ⟨i, li, ei⟩ := List.getElem_of_mem hp
      have hi : L[i]? = some p := by rw [List.getElem?_eq_getElem li, ei]
      obtain ⟨q, q1, q2, q3⟩ := R.slot hi
      rw [e] at q2
      obtain ⟨d, ld, ed⟩ := R.tbl.ahead (List.mem_of_getElem? q1) (K := K) (by rw [q2]; exact hK)
      rw [q2] at ed
      rw [← ed] at q3
      by_cases l1 : d < c
      · exact past d i p l1 q3 hi e
      · exact no (d - c) i (by omega) (by rw [at_, show c + (d - c) = d by omega]; exact q3) (by rw [hs i p hi, e])
end
end Cr
namespace Cr
open PySem PySem.Spec PyProof.Rows L2
theorem fm_get {α : Type} (d : α) (L : List α) : ∀ (o : List Nat), (∀ i ∈ o, i < L.length) → o.filterMap (fun i => L[i]?) = o.map fun i => L.getD i d
  | [], _ => rfl
  | i :: o, h => by
    have li := h i List.mem_cons_self
    rw [List.filterMap_cons_some (List.getElem?_eq_getElem li), fm_get d L o fun j hj => h j (List.mem_cons_of_mem _ hj), List.map_cons]
    congr 1
    rw [List.getD_eq_getElem?_getD, List.getElem?_eq_getElem li]
    rfl
theorem range_get {α : Type} (d : α) (L : List α) : (List.range L.length).map (fun i => L.getD i d) = L := by
  refine List.ext_getElem (by rw [List.length_map, List.length_range]) fun i h1 h2 => ?_
  rw [List.getElem_map, List.getElem_range, List.getD_eq_getElem?_getD, List.getElem?_eq_getElem h2]
  rfl
theorem getD_mapped {α β : Type} (f : α → β) (d : α) (e : β) (L : List α) {i : Nat} (h : i < L.length) : (L.map f).getD i e = f (L.getD i d) := by
  rw [List.getD_eq_getElem?_getD, List.getD_eq_getElem?_getD, List.getElem?_map, List.getElem?_eq_getElem h]
  rfl
section
variable {P : Program} {w : World} {A : Around} {E : Value → Shared → Prop} {s : Shared} {a : Addr} {L : List TRow} {es : Array (Int × Value)} {ep : Nat} {t : SetTable} {ps : List (Int × Nat)}
theorem tx_other {h h' : Heap} {k : List Str} {a b : Addr} {o : Obj} {es : Array (Int × Value)} {ep : Nat} {t : SetTable} (hb : IsTx P w h k b) (ho : h.get? a = some o) (hd : o.data = .set es ep t) (sb : Heap.SameBut a h h') : IsTx P w h' k b := by
  obtain ⟨u, items, n, hu, hc, hud, hi⟩ := hb
  refine ⟨u, items, n, (sb.2 b fun e => ?_).trans hu, hc, hud, hi⟩
  rw [e, ho] at hu
  cases hu
  rw [hd] at hud
  cases hud
/-- the set, where its table may be full -/
structure TFull (P : Program) (w : World) (h : Heap) (a : Addr) (L : List TRow) (es : Array (Int × Value)) (ep : Nat) (t : SetTable) (ps : List (Int × Nat)) : Prop where
  ob : ∃ o, h.get? a = some o ∧ o.ExactSet ∧ o.data = .set es ep t
  rows : es.toList = L.map (rowV P w)
  tbl : Tbl t ps
  hash : ps.map (·.1) = L.map fun p => hTx P w p.2
  once : (L.map (·.2)).Nodup
  tup : ∀ p ∈ L, IsTx P w h p.2 p.1
  led : w.params.followText "set-order" = true ∨ t.led = true
  room : L.length ≤ t.mask
theorem TFull.len {h : Heap} (R : TFull P w h a L es ep t ps) : ps.length = L.length ∧ es.size = L.length := by
  have z1 := congrArg List.length R.hash
  have z2 := congrArg List.length R.rows
  rw [List.length_map, List.length_map] at z1
  rw [List.length_map, Array.length_toList] at z2
  exact ⟨z1, z2⟩
theorem TFull.relay (R : TFull P w s.heap a L es ep t ps) {wanted M : Nat} (hw : SetTable.sizeAbove wanted - 1 = M) (hM : Msk M) (hn : L.length * 5 < M * 3) {Q : Unit → Shared → Prop}
    (hQ : ∀ h' L' es' ep' t' ps', Heap.SameBut a s.heap h' → TSet P w h' a L' es' ep' t' ps' → L'.Perm L → Q () { s with heap := h' }) : wpAny (model P w) A (setRelay a wanted) Q E s := by
  obtain ⟨o, ho, hex, hd⟩ := R.ob
  obtain ⟨l1, l2⟩ := R.len
  have lm := hM.le
  have fit : t.fits es.size = true := by
    rw [l2, ← l1]
    exact R.tbl.fits (by have := R.room; omega)
  obtain ⟨t', js, er, pm, T, em, el⟩ := lay_anew t (hs := es.map (·.1)) hw hM (by rw [Array.size_map]; omega)
  rw [Array.size_map, l2] at pm
  have low : ∀ i ∈ js.map (·.2), i < L.length := fun i hi => List.mem_range.mp (pm.mem_iff.mp hi)
  generalize hL : (js.map (·.2)).map (fun i => L.getD i ((0, []) : TRow)) = L'
  have pL : L'.Perm L := by
    have z := pm.map fun i => L.getD i ((0, []) : TRow)
    rwa [range_get, hL] at z
  have new : ((js.map (·.2)).toArray.filterMap (es[·]?)).toList = L'.map (rowV P w) := by
    rw [Array.toList_filterMap]
    show (js.map (·.2)).filterMap (fun i => es[i]?) = _
    rw [show (fun i => es[i]?) = fun i => es.toList[i]? from funext fun i => Array.getElem?_toList.symm, fm_get (rowV P w (0, [])) es.toList _ (fun i hi => by rw [Array.length_toList, l2]; exact low i hi), ← hL]
    refine Eq.trans (List.map_congr_left fun i hi => ?_) (List.map_map ..).symm
    rw [R.rows]
    exact getD_mapped (rowV P w) (0, []) _ L (low i hi)
  have size : ((js.map (·.2)).toArray.filterMap (es[·]?)).size = es.size := by
    rw [← Array.length_toList, new, List.length_map, pL.length_eq, l2]
  have keys : (js.map fun q => ((es.map (·.1)).toList.getD q.2 0, q.1)).map (·.1) = L'.map fun p => hTx P w p.2 := by
    rw [← hL, List.map_map, List.map_map, List.map_map]
    refine List.map_congr_left fun q hq => ?_
    have li := low q.2 (List.mem_map_of_mem hq)
    show (es.map (·.1)).toList.getD q.2 0 = hTx P w (L.getD q.2 (0, [])).2
    rw [Array.toList_map, R.rows, List.map_map]
    exact getD_mapped (fun p => (rowV P w p).1) (0, []) 0 L li
  rw [setRelay_eq]
  refine wpAny_bind (wpAny_setState_of ho hd fit (wp_if_neg (by rw [sizeLine_eq]; omega) ?_))
  try refine wpAny_bind (wpAny_pure ?_)
  rw [er]
  refine wpAny_bind (wp_if_neg (by rw [size]; simp) ?_)
  try refine wpAny_bind (wpAny_pure ?_)
  refine wpAny_pure (wpAny_storeSet_of ho hd ?_ (by rw [size, l2, sizeLine_eq]; omega))
  have sb := Heap.SameBut.update s.heap a (Obj.putSet ((js.map (·.2)).toArray.filterMap (es[·]?)) t')
  refine hQ _ L' _ (ep + 1) t' _ sb ⟨⟨_, store_at ho hd, hex, rfl⟩, new, T, keys, (pL.map (·.2)).nodup_iff.mpr R.once, fun p hp => tx_other (R.tup p (pL.mem_iff.mp hp)) ho hd sb, el.symm ▸ R.led, by rw [pL.length_eq, em]; exact hn⟩ pL
/-- one is added -/
theorem TSet.add (R : TSet P w s.heap a L es ep t ps) {x : Addr} {k : List Str} (hx : IsTx P w s.heap k x) (hu : A.units < cLine) (few : L.length < 300) {Q : Bool → Shared → Prop}
    (hQ : ∀ b h' L' es' ep' t' ps', Heap.SameBut a s.heap h' → TSet P w h' a L' es' ep' t' ps' → ((k ∈ L.map (·.2) ∧ L' = L) ∨ L'.Perm ((x, k) :: L)) → Q b { s with heap := h' }) :
    wpAny (model P w) A (setAddHashed a (.ref x) (hTx P w k)) Q E s := by
  obtain ⟨o, ho, hex, hd⟩ := R.ob
  obtain ⟨l1, l2⟩ := R.len
  have rm := R.room
  have lm := R.tbl.msk.le
  obtain ⟨K, lK, hK, hb⟩ := R.tbl.free (by omega) (hTx P w k)
  unfold setAddHashed
  rw [setAddHashedIn_succ a (.ref x) (hTx P w k) 99999]
  refine wpAny_holding (wpAny_bind (wpAny_setState_of ho hd R.fits (wp_if_neg (by simp [byScan, Value.scannable]) ?_)))
  try refine wpAny_bind (wpAny_pure ?_)
  unfold setSearch
  have lim : 10 * SetTable.turns t.mask < 100000 := by
    unfold SetTable.turns
    omega
  refine wpAny_bind (R.find hx hu lK hK hb (fun hm => ?_) (fun hm => ?_) 100000 0 none rfl (Nat.zero_le K) (by omega) fun d i p z => absurd z (Nat.not_lt_zero d))
  · exact wpAny_pure (hQ false s.heap L es ep t ps (Heap.SameBut.refl a s.heap) R (.inl ⟨hm, rfl⟩))
  · refine wpAny_bind (wpAny_setState_of ho hd R.fits ?_)
    obtain ⟨q1, q2, q3, q4⟩ := R.tbl.more hK hb
    dsimp only
    generalize t.put (way t.mask (hTx P w k) K) = Z at q1 q2 q3 q4 ⊢
    obtain ⟨t1, b⟩ := Z
    dsimp only at q1 q2 q3 q4 ⊢
    subst q1
    generalize SetTable.below t.place (way t.mask (hTx P w k) K) = b at q2 ⊢
    have pm := ins_perm L b ((x, k) : TRow)
    have rows1 : (SetTable.insertAt es b (hTx P w k, Value.ref x)).toList = (ins L b (x, k)).map (rowV P w) := by
      rw [SetTable.toList_insertAt, map_ins, R.rows]
      rfl
    have hash1 : (ins ps b (hTx P w k, way t.mask (hTx P w k) K)).map (·.1) = (ins L b ((x, k) : TRow)).map fun p => hTx P w p.2 := by
      rw [map_ins, map_ins, R.hash]
    have once1 : ((ins L b ((x, k) : TRow)).map (·.2)).Nodup := (pm.map (·.2)).nodup_iff.mpr (List.nodup_cons.mpr ⟨hm, R.once⟩)
    have len1 : (ins L b ((x, k) : TRow)).length = L.length + 1 := pm.length_eq
    generalize ins L b ((x, k) : TRow) = L1 at pm rows1 hash1 once1 len1
    generalize ins ps b (hTx P w k, way t.mask (hTx P w k) K) = ps1 at q2 hash1
    generalize SetTable.insertAt es b (hTx P w k, Value.ref x) = es1 at rows1
    have size1 : es1.size = L.length + 1 := by
      rw [← Array.length_toList, rows1, List.length_map, len1]
    have go : ∀ t2 : SetTable, Tbl t2 ps1 → t2.mask = t.mask → t2.led = t.led → wpAny (model P w) A (do
        storeSet a es1 t2
        if !false && t2.tooFull then setRelay a (SetTable.grown (es.size + 1))
        return true) Q E s := fun t2 T2 m2 e2 => by
      have sb := Heap.SameBut.update s.heap a (Obj.putSet es1 t2)
      have ob := store_at (es' := es1) (t' := t2) ho hd
      refine wpAny_bind (wpAny_storeSet_of ho hd ?_ (by rw [size1, sizeLine_eq]; omega))
      generalize s.heap.update a (Obj.putSet es1 t2) = h1 at sb ob ⊢
      have tup1 : ∀ p ∈ L1, IsTx P w h1 p.2 p.1 := fun p hp => by
        rcases List.mem_cons.mp (pm.mem_iff.mp hp) with rfl | hp
        · exact tx_other hx ho hd sb
        · exact tx_other (R.tup p hp) ho hd sb
      have full : t2.tooFull = decide ((L.length + 1) * 5 ≥ t.mask * 3) := by
        unfold SetTable.tooFull SetTable.fill
        rw [T2.nodm, T2.size, m2]
        have z := congrArg List.length hash1
        rw [List.length_map, List.length_map, len1] at z
        rw [z]
        rfl
      by_cases c : (L.length + 1) * 5 ≥ t.mask * 3
      · have R1 : TFull P w h1 a L1 es1 (ep + 1) t2 ps1 := ⟨⟨_, ob, hex, rfl⟩, rows1, T2, hash1, once1, tup1, e2.symm ▸ R.led, by rw [len1, m2]; rcases R.tbl.msk with e | e | e | e <;> rw [e] at rm ⊢ <;> omega⟩
        have grow : ∀ M, SetTable.sizeAbove (SetTable.grown (es.size + 1)) - 1 = M → Msk M → (L.length + 1) * 5 < M * 3 → wpAny (model P w) A (setRelay a (SetTable.grown (es.size + 1))) (fun _ s' => wpAny (model P w) A (pure true) Q E s') E { s with heap := h1 } := fun M g1 g2 g3 =>
          TFull.relay (s := { s with heap := h1 }) R1 g1 g2 (by rw [len1]; exact g3) fun h2 L2 es2 ep2 t3 ps2 sb2 R2 pm2 => wpAny_pure (hQ true h2 L2 es2 ep2 t3 ps2 (sb.trans sb2) R2 (.inr (pm2.trans pm)))
        have step : wpAny (model P w) A (setRelay a (SetTable.grown (es.size + 1))) (fun _ s' => wpAny (model P w) A (pure true) Q E s') E { s with heap := h1 } := by
          rcases R.tbl.msk with e | e | e | e
          · rw [e] at c rm
            have l4 : es.size + 1 = 5 := by omega
            exact grow 31 (by rw [l4]; exact grown5) (.inr (.inl rfl)) (by omega)
          · rw [e] at c rm
            have l4 : es.size + 1 = 19 := by omega
            exact grow 127 (by rw [l4]; exact grown19) (.inr (.inr (.inl rfl))) (by omega)
          · rw [e] at c rm
            have l4 : es.size + 1 = 77 := by omega
            exact grow 511 (by rw [l4]; exact grown77) (.inr (.inr (.inr rfl))) (by omega)
          · rw [e] at c
            omega
        have on : (!false && t2.tooFull) = true := by rw [full, decide_eq_true c]; rfl
        first
          | exact wp_if_pos on (wpAny_bind step)
          | exact wpAny_bind (wp_if_pos on step)
      · have on : ¬ (!false && t2.tooFull) = true := by rw [full, decide_eq_false c]; decide
        have end_ : wpAny (model P w) A (pure true) Q E { s with heap := h1 } := wpAny_pure (hQ true h1 L1 es1 (ep + 1) t2 ps1 sb ⟨⟨_, ob, hex, rfl⟩, rows1, T2, hash1, once1, tup1, e2.symm ▸ R.led, by rw [len1, m2]; omega⟩ (.inr pm))
        first
          | exact wp_if_neg on end_
          | exact wpAny_bind (wp_if_neg on (wpAny_pure end_))
    have both : ∀ z : Bool, wpAny (model P w) A (do
        let t2 : SetTable := if z then t1 else { t1 with plain := false }
        storeSet a es1 t2
        if !false && t2.tooFull then setRelay a (SetTable.grown (es.size + 1))
        return true) Q E s := fun z => by
      cases z
      · exact go { t1 with plain := false } ⟨q2.at_, q2.up, q2.nodm, q2.msk, q2.low, q2.goes⟩ q3 q4
      · exact go t1 q2 q3 q4
    by_cases pl : t1.plain = true
    · first
        | exact wp_if_pos pl (wpAny_bind (tx_byValue hx both))
        | exact wpAny_bind (wp_if_pos pl (tx_byValue hx both))
    · first
        | exact wp_if_neg pl (wpAny_bind (wpAny_pure (both true)))
        | exact wpAny_bind (wp_if_neg pl (wpAny_pure (both true)))
        | exact wp_if_neg pl (both true)
end
end Cr
/-! set(xs) of a list of tuples of texts -/
namespace Cr
open PySem PySem.Spec PyProof.Rows L2
/-- what the first i items gave -/
structure Gath (ks : List TRow) (i : Nat) (L : List TRow) : Prop where
  of : ∀ p ∈ L, p ∈ ks.take i
  has : ∀ p ∈ ks.take i, p.2 ∈ L.map (·.2)
  few : L.length ≤ i
theorem Gath.step {ks L L' : List TRow} {i : Nat} {q : TRow} (g : Gath ks i L) (e : ks[i]? = some q) (h : (q.2 ∈ L.map (·.2) ∧ L' = L) ∨ L'.Perm (q :: L)) : Gath ks (i + 1) L' := by
  have nx : ks.take (i + 1) = ks.take i ++ [q] := by rw [List.take_add_one, e]; rfl
  rcases h with ⟨m, rfl⟩ | pm
  · refine ⟨fun p hp => ?_, fun p hp => ?_, Nat.le_succ_of_le g.few⟩
    · rw [nx]
      exact List.mem_append_left _ (g.of p hp)
    · rw [nx, List.mem_append, List.mem_singleton] at hp
      rcases hp with hp | rfl
      · exact g.has p hp
      · exact m
  · refine ⟨fun p hp => ?_, fun p hp => ?_, by rw [pm.length_eq]; exact Nat.succ_le_succ g.few⟩
    · rw [nx, List.mem_append, List.mem_singleton]
      rcases List.mem_cons.mp (pm.mem_iff.mp hp) with rfl | hp
      · exact .inr rfl
      · exact .inl (g.of p hp)
    · rw [(pm.map (·.2)).mem_iff, List.map_cons, List.mem_cons]
      rw [nx, List.mem_append, List.mem_singleton] at hp
      rcases hp with hp | rfl
      · exact .inr (g.has p hp)
      · exact .inl rfl
abbrev freshT (w : World) : SetTable := .fresh 0 0 (!w.params.followText "set-order")
abbrev freshO (w : World) : Obj := { cls := .type "set", dict := none, data := .set #[] 0 (freshT w) }
section
variable {P : Program} {w : World} {A : Around} {E : Value → Shared → Prop} {s : Shared}
theorem tx_kept {h h' : Heap} {k : List Str} {b : Addr} (z : IsTx P w h k b) (kp : ∀ c o, h.get? c = some o → h'.get? c = some o) : IsTx P w h' k b := by
  obtain ⟨o, items, n, ho, r⟩ := z
  exact ⟨o, items, n, kp b o ho, r⟩
theorem TSet.none {h : Heap} {a : Addr} (ho : h.get? a = some (freshO w)) : TSet P w h a [] #[] 0 (freshT w) [] where
  ob := ⟨_, ho, ⟨rfl, rfl, rfl⟩, rfl⟩
  rows := rfl
  tbl := ⟨rfl, .nil, rfl, .inl rfl, (fun _ z => nomatch z), (fun _ z => nomatch z)⟩
  hash := rfl
  once := .nil
  tup := fun _ z => nomatch z
  led := by
    cases z : w.params.followText "set-order"
    · refine .inr ?_
      show (!w.params.followText "set-order") = true
      rw [z]
      rfl
    · exact .inl rfl
  room := by
    show 0 * 5 < 7 * 3
    decide
theorem tx_loop {I : Addr} {fp wr : List Addr} {G : Array GenState → Array GenState → Prop} {n : Nat} {Pv : Nat → Value → Prop} {St : Nat → Shared → Prop} {R : Result → Shared → Prop}
    (W : WalksS P w A.in1 I fp wr G n Pv St) {S : Addr} (outS : S ∉ fp) {ks : List TRow} (en : n = ks.length) (few : ks.length < 300) (val : ∀ i v, Pv i v → ∃ p, ks[i]? = some p ∧ v = .ref p.1)
    {h0 : Heap} (tk : ∀ p ∈ ks, IsTx P w h0 p.2 p.1) (newS : h0.get? S = none) (newW : ∀ b ∈ wr, h0.get? b = none) (hu : A.in1.units < cLine)
    (hR : ∀ s' L es ep t ps, s'.gens = s.gens ∧ s'.drawn = s.drawn ∧ s'.os = s.os → TSet P w s'.heap S L es ep t ps → Gath ks n L → (∀ b o, h0.get? b = some o → s'.heap.get? b = some o) → R (.ok (.ret .none)) s')
    (gq : ∀ {x y : Array GenState}, G x y → y = x) :
    ∀ (k i : Nat) (s1 : Shared), i + k = n → St i s1 → (s1.gens = s.gens ∧ s1.drawn = s.drawn ∧ s1.os = s.os) → (∀ b o, h0.get? b = some o → s1.heap.get? b = some o) → (∃ L es ep t ps, TSet P w s1.heap S L es ep t ps ∧ Gath ks i L) →
      codeAny (model P w) A (.builtin "set.update.loop" ⟨[.ref S, .ref I], []⟩) R s1
  | 0, i, s1, ei, st, sm, kp, ⟨L, es, ep, t, ps, T, g⟩ => by
    refine codeAny_builtin F.entry_set_update_loop ?_
    rw [Around.under_plainId F.plain_set_update_loop _]
    have ein : i = n := ei
    subst ein
    show wpAny _ A.in1 (pyNext (.ref I) >>= _) _ _ s1
    refine wpAny_bind (W.done s1 _ _ st fun s2 mv => ?_)
    have kp2 : ∀ b o, h0.get? b = some o → s2.heap.get? b = some o := fun b o e => mv.heap b o (fun z => by rw [newW b z] at e; cases e) (kp b o e)
    obtain ⟨o, ho, r⟩ := T.ob
    refine wpAny_pure (hR s2 L es ep t ps ⟨(gq mv.gens).trans sm.1, mv.drawn.trans sm.2.1, mv.os.trans sm.2.2⟩ ⟨⟨o, mv.heap S o (fun z => outS (W.sub _ z)) ho, r⟩, T.rows, T.tbl, T.hash, T.once, fun p hp => tx_kept (tk p (List.mem_of_mem_take (g.of p hp))) kp2, T.led, T.room⟩ g kp2)
  | k + 1, i, s1, ei, st, sm, kp, ⟨L, es, ep, t, ps, T, g⟩ => by
    refine codeAny_builtin F.entry_set_update_loop ?_
    rw [Around.under_plainId F.plain_set_update_loop _]
    show wpAny _ A.in1 (pyNext (.ref I) >>= _) _ _ s1
    refine wpAny_bind (W.item i s1 _ _ (by omega) st fun v s2 hv st2 mv => ?_)
    obtain ⟨q, hq, rfl⟩ := val i v hv
    have kp2 : ∀ b o, h0.get? b = some o → s2.heap.get? b = some o := fun b o e => mv.heap b o (fun z => by rw [newW b z] at e; cases e) (kp b o e)
    obtain ⟨o, ho, r⟩ := T.ob
    have T2 : TSet P w s2.heap S L es ep t ps := ⟨⟨o, mv.heap S o (fun z => outS (W.sub _ z)) ho, r⟩, T.rows, T.tbl, T.hash, T.once, fun p hp => tx_kept (tk p (List.mem_of_mem_take (g.of p hp))) kp2, T.led, T.room⟩
    have xq : IsTx P w s2.heap q.2 q.1 := tx_kept (tk q (List.mem_of_getElem? hq)) kp2
    show wpAny _ A.in1 (holding [Value.ref q.1] (setAdd S (.ref q.1)) >>= _) _ _ s2
    unfold setAdd
    refine wpAny_bind (wpAny_holding (wpAny_holding (wpAny_bind (wpAny_pyHash_tuple hu xq ?_))))
    refine TSet.add (s := { s2 with toks := s2.toks + (q.2.length + 1) }) T2 xq hu (by have := g.few; omega) fun b h3 L3 es3 ep3 t3 ps3 sb T3 ch => ?_
    refine wpAny_pure ⟨plainId_quiet F.plain_set_update_loop _, tx_loop W outS en few val tk newS newW hu hR gq k (i + 1) _ (by omega) (W.frame _ s2 _ _ st2 (Nat.le_add_right _ _) fun b hb o e => ?_) ⟨(gq mv.gens).trans sm.1, mv.drawn.trans sm.2.1, mv.os.trans sm.2.2⟩ (fun b o e => ?_) ⟨L3, es3, ep3, t3, ps3, T3, g.step hq ch⟩⟩
    · exact (sb.2 b fun z : b = S => outS (z ▸ hb)).trans e
    · exact (sb.2 b fun z : b = S => by rw [z, newS] at e; cases e).trans (kp2 b o e)
end
end Cr
namespace Cr
open PySem PySem.Spec PyProof.Rows L2
section
variable {P : Program} {w : World} {A : Around} {E : Value → Shared → Prop} {s : Shared}
abbrev iterO (l : Addr) : Obj := { cls := .type "list_iterator", data := .fields #[.ref l, .int 0 0] }
/-- set(xs): a new set, an iterator, and the loop over it -/
theorem set_from {l : Addr} {items : Array Value} {Z : Shared → Prop} {Q : Value → Shared → Prop} (hl : s.heap.IsList l items)
    (loop : codeAny (model P w) A.in1.in1 (.builtin "set.update.loop" ⟨[.ref s.heap.objs.size, .ref (s.heap.push (freshO w)).objs.size], []⟩) (fun r s' => r = .ok (.ret .none) ∧ Z s') { s with heap := (s.heap.push (freshO w)).push (iterO l) })
    (h : ∀ s', Z s' → Q (.ref s.heap.objs.size) s') : wpAny (model P w) A (call (.type "set") [.ref l]) Q E s := by
  have cs := F.called_set
  obtain ⟨c, tl, mro⟩ := cs.mro
  have made := cs.made
  have sub := cs.sub
  have notT := cs.notType
  have canC := cs.canCreate
  have tc := F.typeCall_set_1 (.ref l)
  refine wpAny_call (codeAny_of_tree ?_)
  show wpAny _ _ (callAny (.type "set") _) _ _ _
  refine wpAny_pure ⟨Code.quiet_builtin _ (by decide +kernel), codeAny_builtin F.entry_type_call ?_⟩
  rw [Around.under_plain (weight_type_call_type "set" [.ref l] []) rfl]
  repeat any_goals first | assumption | wp_step
  refine codeAny_mono (code_set_led1 (.ref l) (E := E) (Q₁ := fun u s1 => u = .ref s.heap.objs.size ∧ s1 = { s with heap := s.heap.push (freshO w) }) ⟨rfl, rfl⟩) fun r s1 hr => ?_
  rcases r with e | fl
  case error => exact hr
  cases fl
  case ret u =>
    obtain ⟨rfl, rfl⟩ := hr
    have at1 : (s.heap.push (freshO w)).get? s.heap.objs.size = some (freshO w) := Heap.get?_push_size _ rfl
    have ty : Shared.TypeIs { s with heap := s.heap.push (freshO w) } (.ref s.heap.objs.size) "set" := ⟨_, at1, rfl⟩
    have lk := F.called_set.init.lookup
    have bd := F.called_set.init.bind (.ref s.heap.objs.size)
    repeat any_goals first | assumption | wp_step
    refine codeAny_mono (codeAny_call_builtin (R := wants (fun r s2 => r = .none ∧ Z s2) E) F.called_set.init.plain F.entry_set_init (check_set_init_1 ty ?_)) fun r s2 hr => ?_
    · obtain ⟨⟨ocls, odict, odata, oslots⟩, hol, rfl, nl, rfl⟩ := hl
      have hol1 : (s.heap.push (freshO w)).get? l = some { cls := .type "list", dict := odict, data := .seq items nl, slots := oslots } := Heap.get?_push_of_some _ hol
      have n1 := F.sub_list_set
      have n2 := F.sub_list_frozenset
      have n3 : (Value.type "list" == Value.type "dict") = false := by decide
      have hl1 : (s.heap.push (freshO w)).IsList l items := ⟨_, hol1, rfl, nl, rfl⟩
      unfold Builtin.«set.__init__» noKeywords Builtin.Frozenset.updateFrom
      generalize hPI : pyIter = PI
      wp_walk
      subst hPI
      refine wpAny_pyIter_list hl1 (wpAny_bind (wpAny_runValue (codeAny_mono loop fun r s2 hr => ?_)))
      obtain ⟨rfl, z⟩ := hr
      show wpAny _ _ _ _ _ _
      refine wpAny_pure ?_
      show wpAny _ _ (ret Value.none) _ _ _
      exact wpAny_pure ⟨rfl, z⟩
    · rcases r with e | fl
      case error => exact hr
      cases fl
      case ret u =>
        obtain ⟨rfl, z⟩ := hr
        repeat any_goals first | assumption | wp_step
        exact h _ z
      all_goals exact hr.elim
  all_goals exact hr.elim
theorem none_above {h : Heap} {b : Addr} (lb : h.objs.size ≤ b) : h.get? b = none := by
  cases z : h.get? b with
  | none => rfl
  | some o => exact absurd (Heap.lt_size z) (Nat.not_lt.mpr lb)
/-- set(xs) of tuples of texts -/
theorem tx_set {l : Addr} {items : Array Value} {ks : List TRow} {Q : Value → Shared → Prop} (hh : A.handled = none) (hl : s.heap.IsList l items) (hi : items.toList = ks.map fun p => Value.ref p.1)
    (tk : ∀ p ∈ ks, IsTx P w s.heap p.2 p.1) (few : ks.length < 300) (hu : A.units + 3 < cLine)
    (h : ∀ h' n L es ep t ps, TSet P w h' s.heap.objs.size L es ep t ps → Gath ks ks.length L → (∀ b o, s.heap.get? b = some o → h'.get? b = some o) → Q (.ref s.heap.objs.size) { s with heap := h', toks := n }) :
    wpAny (model P w) A (call (.type "set") [.ref l]) Q E s := by
  have sz : items.size = ks.length := by
    rw [← Array.length_toList, hi, List.length_map]
  have lS : l < s.heap.objs.size := by
    obtain ⟨o, ho, _⟩ := hl
    exact Heap.lt_size ho
  have ps1 : (s.heap.push (freshO w)).objs.size = s.heap.objs.size + 1 := Heap.size_push ..
  have at1 : (s.heap.push (freshO w)).get? s.heap.objs.size = some (freshO w) := Heap.get?_push_size _ rfl
  have hl1 : (s.heap.push (freshO w)).IsList l items := hl.push _
  refine set_from (Z := fun s' => ∃ h' n L es ep t ps, s' = { s with heap := h', toks := n } ∧ TSet P w h' s.heap.objs.size L es ep t ps ∧ Gath ks ks.length L ∧ ∀ b o, s.heap.get? b = some o → h'.get? b = some o) hl ?_ fun s' z => ?_
  · have W := (Walks.list (prog := P) (w := w) (A := A.in1.in1.in1) (by simp [hh]) (s.heap.push (freshO w)).objs.size l (by rw [ps1]; exact Nat.ne_of_lt (Nat.lt_succ_of_lt lS)) items).toS
    refine tx_loop (s := s) W (S := s.heap.objs.size) (ks := ks) (h0 := s.heap) (by rw [ps1, List.mem_cons, List.mem_singleton, not_or]; exact ⟨Nat.ne_of_lt (Nat.lt_succ_self _), Nat.ne_of_gt lS⟩) sz few (fun i v hv => ?_) tk (none_above (Nat.le_refl _)) (fun b hb => ?_) ?_ (fun s' L es ep t ps sm T g kp => ⟨rfl, s'.heap, s'.toks, L, es, ep, t, ps, ?_, T, sz ▸ g, kp⟩) (fun e => e) items.size 0 _ (Nat.zero_add _) ⟨⟨_, Heap.get?_push_size _ rfl, rfl, rfl⟩, hl1.push _⟩ ⟨rfl, rfl, rfl⟩ (fun b o e => Heap.get?_push_of_some _ (Heap.get?_push_of_some _ e)) ⟨[], #[], 0, _, [], TSet.none (Heap.get?_push_of_some _ at1), ⟨(fun _ z => nomatch z), (fun _ z => by simp at z), Nat.le_refl _⟩⟩
    · have z : items.toList[i]? = some v := by rw [Array.getElem?_toList]; exact hv
      rw [hi, List.getElem?_map] at z
      obtain ⟨p, e1, e2⟩ := Option.map_eq_some_iff.mp z
      exact ⟨p, e1, e2.symm⟩
    · rw [List.mem_singleton.mp hb, ps1]
      exact none_above (Nat.le_succ _)
    · show A.in1.in1.in1.units < cLine
      simp only [Around.in1]
      omega
    · obtain ⟨h2, g2, d2, n2, o2⟩ := s'
      obtain ⟨e1, e2, e3⟩ := sm
      cases e1
      cases e2
      cases e3
      rfl
  · obtain ⟨h', n, L, es, ep, t, ps, rfl, T, g, kp⟩ := z
    exact h h' n L es ep t ps T g kp
end
end Cr
/-! sets of texts: made, added to, sorted -/
namespace Cr
open PySem PySem.Spec PyProof.Rows L2 Evl
def txtOf (e : Int × Value) : Str := match e.2 with | .str k _ => k | _ => ""
abbrev txts (es : Array (Int × Value)) : List Str := es.toList.map txtOf
abbrev hsh (P : Program) (w : World) (k : Str) : Int := (PySem.strKind P w).hash k
def TxtE (P : Program) (w : World) (e : Int × Value) : Prop := ∃ k tk, e = (hsh P w k, Value.str k tk)
/-- the set at a: its members are those of l -/
structure TxtIn (P : Program) (w : World) (l : List Str) (es : Array (Int × Value)) (t : SetTable) : Prop where
  good : ∀ e ∈ es.toList, TxtE P w e
  once : (txts es).Nodup
  mem : ∀ k, k ∈ l ↔ k ∈ txts es
  few : es.size ≤ l.length
  fit : t.fits es.size = true
  ris : Ris t.place.toList
  led : w.params.followText "set-order" = true ∨ t.led = true
def TxtSet (P : Program) (w : World) (h : Heap) (a : Addr) (l : List Str) : Prop := ∃ o es ep t, h.get? a = some o ∧ o.ExactSet ∧ o.data = .set es ep t ∧ TxtIn P w l es t
section
variable {P : Program} {w : World} {A : Around} {E : Value → Shared → Prop} {s : Shared} {a : Addr} {l : List Str}
theorem txt_is {e : Int × Value} (g : TxtE P w e) (k : Str) : (PySem.strKind P w).is k e.2 = true ↔ txtOf e = k := by
  obtain ⟨k0, tk, rfl⟩ := g
  show (PySem.strKind P w).is k (.str k0 tk) = true ↔ k0 = k
  simp [PySem.strKind, Value.isStrOf]
theorem txt_elems {es : List (Int × Value)} (g : ∀ e ∈ es, TxtE P w e) : ElemsOf (PySem.strKind P w) es := fun e he => by
  obtain ⟨k, tk, rfl⟩ := g e he
  exact ⟨⟨k, strKind_is P w k tk, rfl⟩, rfl⟩
theorem TxtIn.perm {es es' : Array (Int × Value)} {t t' : SetTable} (T : TxtIn P w l es t) (pm : es'.toList.Perm es.toList) (hf : t'.fits es'.size = true) (hr : Ris t'.place.toList) (hl : t'.led = t.led) : TxtIn P w l es' t' where
  good := fun e he => T.good e (pm.mem_iff.mp he)
  once := (pm.map txtOf).nodup_iff.mpr T.once
  mem := fun k => (T.mem k).trans (pm.map txtOf).mem_iff.symm
  few := by
    have z := pm.length_eq
    rw [Array.length_toList, Array.length_toList] at z
    rw [z]
    exact T.few
  fit := hf
  ris := hr
  led := T.led.imp id fun z => hl.trans z
/-- laid down, and once more where the table is full -/
theorem txt_tail {g : Bool → Sem Unit} (hg : ∀ (b : Bool) (s₁ : Shared) (Q' : Unit → Shared → Prop), Q' () s₁ → wpAny (model P w) A (g b) Q' E s₁) {o : Obj} {es es1 : Array (Int × Value)} {ep : Nat} {t t1 : SetTable}
    (ho : s.heap.get? a = some o) (hx : o.ExactSet) (hd : o.data = .set es ep t) (T : TxtIn P w l es1 t1) (hb : es1.size < scanBound) {wd : Bool} {R : Option Bool → Shared → Prop} (hR : ∀ h', Heap.SameBut a s.heap h' → TxtSet P w h' a l → R (some true) { s with heap := h' }) :
    wpAny (model P w) A (do
        storeSet a es1 t1
        if (!wd && t1.tooFull) = true then do
            g (relayAll t1 es1 (SetTable.grown es1.size)).2.2
            storeSet a (relayAll t1 es1 (SetTable.grown es1.size)).1 (relayAll t1 es1 (SetTable.grown es1.size)).2.1
            pure (some true)
          else pure (some true)) R E s := by
  have o1 := L2.store_at (es' := es1) (t' := t1) ho hd
  have b1 := Heap.SameBut.update s.heap a (Obj.putSet es1 t1)
  refine wpAny_bind (wpAny_storeSet_of ho hd ?_ (fits_of_scanBound hb))
  split
  case isFalse => exact wpAny_pure (hR _ b1 ⟨_, es1, _, t1, o1, hx, rfl, T⟩)
  case isTrue =>
    have q1 := relayAll_perm t1 es1 (SetTable.grown es1.size)
    have q2 := relayAll_fits t1 es1 (SetTable.grown es1.size)
    have q3 := relayAll_ris t1 es1 (SetTable.grown es1.size)
    have q4 := relayAll_led t1 es1 (SetTable.grown es1.size)
    generalize relayAll t1 es1 (SetTable.grown es1.size) = Z at q1 q2 q3 q4 ⊢
    obtain ⟨es2, t2, gave⟩ := Z
    dsimp only at q1 q2 q3 q4 ⊢
    have sz : es2.size = es1.size := by
      have z := q1.length_eq
      rwa [Array.length_toList, Array.length_toList] at z
    refine wpAny_bind (hg _ _ _ (wpAny_bind (wpAny_storeSet_of o1 rfl ?_ (fits_of_scanBound (sz ▸ hb)))))
    exact wpAny_pure (hR _ (b1.trans (Heap.SameBut.update _ a _)) ⟨_, es2, _, t2, L2.store_at (es' := es2) (t' := t2) o1 rfl, hx, rfl, T.perm q1 q2 q3 q4⟩)
theorem txt_hashed {k : Str} {tk : Tok} {Q : Bool → Shared → Prop} (R : TxtSet P w s.heap a l) (room : l.length + 1 < scanBound) (hQ : ∀ b h', Heap.SameBut a s.heap h' → TxtSet P w h' a (k :: l) → Q b { s with heap := h' }) :
    wpAny (model P w) A (setAddHashed a (.str k tk) (hsh P w k)) Q E s := by
  obtain ⟨o, es, ep, t, ho, hx, hd, T⟩ := R
  have sc : (Value.str k tk).scannable = true := rfl
  have el := txt_elems T.good
  have fw := T.few
  unfold setAddHashed setAddHashedIn
  refine wpAny_holding (wpAny_bind (wpAny_setState_of ho hd T.fit ?_))
  dsimp only
  rw [byScan_of sc (by omega) el]
  simp only [↓reduceIte]
  unfold setAddByScan
  refine wpAny_bind (wpAny_bind (wpAny_rule (wpAny_bind (wpAny_setScan_of (strKind_is P w k tk) ho hd T.fit el ?_))))
  cases hf : List.findIdx? (fun e => (PySem.strKind P w).is k e.2) es.toList with
  | some j =>
    obtain ⟨hj, pj, _⟩ := List.findIdx?_eq_some_iff_getElem.mp hf
    have kin : k ∈ txts es := List.mem_map.mpr ⟨_, List.getElem_mem hj, (txt_is (T.good _ (List.getElem_mem hj)) k).mp pj⟩
    refine wpAny_pure (wpAny_pure (hQ _ s.heap (Heap.SameBut.refl a s.heap) ⟨o, es, ep, t, ho, hx, hd, { T with mem := fun x => ?_, few := Nat.le_succ_of_le T.few }⟩))
    rw [List.mem_cons, T.mem x]
    exact ⟨fun z => z.elim (fun e => e ▸ kin) id, .inr⟩
  | none =>
    have kout : k ∉ txts es := fun z => by
      obtain ⟨e, he, q⟩ := List.mem_map.mp z
      have c := List.findIdx?_eq_none_iff.mp hf e he
      rw [(txt_is (T.good e he) k).mpr q] at c
      cases c
    have gw : ∀ (b : Bool) {s₁ : Shared} {Q' : Unit → Shared → Prop}, Q' () s₁ → wpAny (model P w) A (match b with | true => rule "set.scan.the-table-gave-way" | false => pure ()) Q' E s₁ := fun b s₁ Q' q => by
      cases b
      · exact wpAny_pure q
      · exact wpAny_rule q
    dsimp only
    have q1 := layNew_perm t es (hsh P w k) (.str k tk)
    have q2 := layNew_fits t es (hsh P w k) (.str k tk)
    have q3 := layNew_ris t es (hsh P w k) (.str k tk) T.ris
    have q4 := layNew_led t es (hsh P w k) (.str k tk)
    generalize layNew t es (hsh P w k) (.str k tk) = Z at q1 q2 q3 q4 ⊢
    obtain ⟨es1, t1, wd, gave⟩ := Z
    dsimp only at q1 q2 q3 q4 ⊢
    rw [Array.toList_push] at q1
    have pc := q1.trans (List.perm_append_singleton _ _)
    have pk : (txts es1).Perm (k :: txts es) := pc.map txtOf
    have sz : es1.size = es.size + 1 := by
      have z := pc.length_eq
      rwa [Array.length_toList, List.length_cons, Array.length_toList] at z
    have T1 : ∀ {t2 : SetTable}, t2.fits es1.size = true → Ris t2.place.toList → t2.led = t1.led → TxtIn P w (k :: l) es1 t2 := fun f r ld =>
      { good := fun e he => by
          rcases List.mem_cons.mp (pc.mem_iff.mp he) with z | z
          · exact ⟨k, tk, z⟩
          · exact T.good e z
        once := pk.nodup_iff.mpr (List.nodup_cons.mpr ⟨kout, T.once⟩)
        mem := fun x => by rw [pk.mem_iff, List.mem_cons, List.mem_cons, T.mem x]
        few := by rw [sz, List.length_cons]; omega
        fit := f
        ris := r
        led := T.led.imp id fun z => ld.trans (q4.trans z) }
    have hb : es1.size < scanBound := by omega
    refine wpAny_bind (gw _ ?_)
    split
    · refine wpAny_bind ?_
      rw [hashByValue_scannable 8 sc]
      refine wpAny_pure ?_
      refine txt_tail (l := k :: l) ?_ ho hx hd (T1 ?_ ?_ ?_) hb ?_
      · intro b s₁ Q' q
        cases b <;> first | exact wpAny_pure q | exact wpAny_rule q
      · first | (split <;> first | exact q2 | exact SetTable.fits_plain_off q2) | exact q2
      · first | (split <;> exact q3) | exact q3
      · first | (split <;> rfl) | rfl
      · intro h' sb r
        exact wpAny_pure (hQ _ h' sb r)
    · refine wpAny_bind (wpAny_pure ?_)
      simp only [↓reduceIte]
      refine txt_tail (l := k :: l) ?_ ho hx hd (T1 q2 q3 rfl) hb ?_
      · intro b s₁ Q' q
        cases b <;> first | exact wpAny_pure q | exact wpAny_rule q
      · intro h' sb r
        exact wpAny_pure (hQ _ h' sb r)
end
end Cr
namespace Cr
open PySem PySem.Spec PyProof.Rows L2 Evl
section
variable {P : Program} {w : World} {A : Around} {E : Value → Shared → Prop} {s : Shared} {a : Addr} {l : List Str}
theorem txt_fresh {h : Heap} : TxtSet P w (h.push { cls := .type "set", dict := none, data := .set #[] 0 (.fresh 0 0 (!w.params.followText "set-order")) }) h.objs.size [] := by
  obtain ⟨o, es, ep, t, ho, hx, hd, _, _, _, _, hf, hn, hr, hl⟩ := L2.setR_fresh (h := h) w
  have e0 : es = #[] := by
    cases es with
    | mk l =>
      cases l with
      | nil => rfl
      | cons x r => cases hn
  subst e0
  exact ⟨o, #[], ep, t, ho, hx, hd, ⟨fun e he => absurd he (by simp), .nil, fun k => by simp [txts], Nat.le_refl _, hf, hr, hl⟩⟩
theorem strs_are : ∀ {vs : List Value}, (∀ v ∈ vs, ∃ k tk, v = Value.str k tk) → ∃ ss : List Str, StrsAre vs ss ∧ ss = vs.map fun v => txtOf (0, v)
  | [], _ => ⟨[], .nil, rfl⟩
  | v :: r, h => by
    obtain ⟨k, tk, rfl⟩ := h v List.mem_cons_self
    obtain ⟨ss, h1, h2⟩ := strs_are (vs := r) fun u hu => h u (List.mem_cons_of_mem _ hu)
    exact ⟨k :: ss, .cons k tk h1, by rw [h2]; rfl⟩
theorem size_up {h : Heap} (o : Obj) : (h.push o).objs.size = h.objs.size + 1 := by simp [Heap.push]
/-- sorted(found) -/
theorem txt_sorted {Q : Value → Shared → Prop} (R : TxtSet P w s.heap a l) (hh : A.handled = none) (few : l.length < 64)
    (hQ : ∀ s' p (out : Array Value) (c : Nat) (ss : List Str), (∀ b o, s.heap.get? b = some o → s'.heap.get? b = some o) → s'.gens = s.gens → s'.os = s.os → s.heap.objs.size ≤ p → s'.heap.get? p = some (seqObj "list" out c) → StrsAre out.toList ss →
      ss.Nodup → sortedS ss = true → (∀ k, k ∈ ss ↔ k ∈ l) → ss.length ≤ l.length → Q (.ref p) s') : wpAny (model P w) A (call (.builtin "sorted") [.ref a]) Q E s := by
  obtain ⟨o, es, ep, t, ho, hx, hd, T⟩ := R
  have fw := T.few
  refine Calls.call_function_entry kind_sorted plain_sorted entry_sorted (args_sorted1 _) ?_
  unfold Builtin.«sorted»
  refine wpAny_bind (m := checkCount "sorted" 1 1 _) (wpAny_pure (wpAny_bind (L2.collect_set (A := A.in1) hh ⟨o, ho, hx.1, hd⟩ T.fit (by unfold scanBound; omega) T.ris T.led fun s1 vs k1 hz g1 o1 pm => ?_)))
  have lv : vs.length = es.size := by rw [pm.length_eq, List.length_map, Array.length_toList]
  obtain ⟨ss, hS, es'⟩ := strs_are (vs := vs) fun v hv => by
    obtain ⟨e, he, q⟩ := List.mem_map.mp (pm.mem_iff.mp hv)
    obtain ⟨k, tk, rfl⟩ := T.good e he
    exact ⟨k, tk, q.symm⟩
  have pt : ss.Perm (txts es) := by
    rw [es']
    have z := pm.map fun v => txtOf (0, v)
    rw [List.map_map] at z
    exact z
  refine wpAny_bind (wpAny_newList ?_ (by rw [lv, sizeLine_eq]; omega))
  have at1 : (s1.heap.push (seqObj "list" vs.toArray 0)).get? s1.heap.objs.size = some (seqObj "list" vs.toArray 0) := Heap.get?_push_size _ rfl
  refine wpAny_bind (wpAny_holding (wpAny_call_entry slot_list_sort ⟨_, at1, rfl⟩ entry_list_sort (list_sort_treeK strKind_oneLt at1 hS.keysOf (fun v₁ v₂ rest e => keyKind_strs (by rw [← e]; exact hS)) (by omega) fun st' hp hs => ⟨_, rfl, ?_⟩) (args_list_sort _)))
  obtain ⟨ss2, a1, a2, a3⟩ := sorted_out_str hS hp hs
  obtain ⟨c, hc⟩ := sortedHeap_at (vs := vs) (out := (arrOf st').map (·.2)) at1
  have p2 := a2.trans pt
  refine wpAny_pure ⟨_, rfl, hQ _ s1.heap.objs.size _ c ss2 (fun b u e => ?_) g1 o1 hz hc (by simpa using a1) (p2.nodup_iff.mpr T.once) a3 (fun k => by rw [p2.mem_iff, T.mem k]) ?_⟩
  · have q := k1 b u e
    have lt := Heap.lt_size q
    show (sortedHeap (s1.heap.push (seqObj "list" vs.toArray 0)) s1.heap.objs.size vs ((arrOf st').map (·.2))).get? b = some u
    rw [sortedHeap_old (Nat.ne_of_lt lt) (by rw [size_up]; exact Nat.lt_succ_of_lt lt)]
    exact Heap.get?_push_of_some _ q
  · have z : ss2.length = es.size := by rw [p2.length_eq]; simp [txts]
    rw [z]
    exact T.few
end
/-- the set of texts at a, tracked -/
def TxtO (P : Program) (w : World) (a : Addr) (l : List Str) : HO := .ext fun h => TxtSet P w h a l
theorem txtO_new {P : Program} {w : World} {H : Hp} {h : Heap} {a : Addr} {l : List Str} (R : TxtSet P w h a l) : ObjOk P w H h a (TxtO P w a l) := by
  have ⟨o, es, ep, t, ho, r⟩ := R
  refine ⟨R, ⟨o, ho⟩, fun h1 h2 z k => ?_⟩
  obtain ⟨o', es', ep', t', ho', r'⟩ := z
  exact ⟨o', es', ep', t', k o' ho', r'⟩
section
variable {X : Cx} {pins : List (Addr × Obj)} {σ : L2.St} {H : Hp} {s : Shared} {a : Addr} {l : List Str}
theorem txtO_get (I : Inv X pins σ H s) (ha : H a = some (TxtO X.prog X.w a l)) : TxtSet X.prog X.w s.heap a l := (I.hok a _ ha).1
def rSortT (P : Program) (w : World) : List V → Hp → VK → Prop := fun vs H Q => ∃ (a : Addr) (l : List Str), vs = [V.ref a] ∧ H a = some (TxtO P w a l) ∧ l.length < 64 ∧
  ∀ (ss : List Str) (p : Addr), ss.Nodup → sortedS ss = true → (∀ k, k ∈ ss ↔ k ∈ l) → H p = none → Q (.ref p) (upd H p (.lst (ss.map V.str)))
theorem cr_sortT (hc : X.calm = true) : CallR X (.builtin "sorted") (rSortT X.prog X.w) := by
  intro pins s σ H vs us Q I r h
  obtain ⟨a, l, rfl, ha, few, q⟩ := h
  obtain ⟨u, rfl, ru⟩ := vals1 r
  obtain rfl : u = Value.ref a := ru
  refine txt_sorted (txtO_get I ha) (I.ok.hd hc) few fun s' p out c ss k g o hp hg hi nd so mem ln => ?_
  have hz : (ss.map V.str).length ≤ sizeLine := by rw [List.length_map, sizeLine_eq]; omega
  have hn : H p = none := I.hok.fresh hp
  have J : Inv X pins σ (upd H p (.lst (ss.map V.str))) { s with heap := s'.heap, gens := s'.gens, drawn := s'.drawn, toks := s'.toks } :=
    I.call (ch := []) (Un.laid k hp hn) (I.hok.laid k hp ⟨hz, out.toList, c, vals_of_strs hi, hg⟩) (by rw [g]; exact I.bare) (fun _ z => nomatch z)
  obtain ⟨h2, g2, d2, t2, os2⟩ := s'
  have o' : os2 = s.os := o
  subst o'
  exact ⟨.ref p, _, J, rfl, q ss p nd so mem hn⟩
end
end Cr
/-! set(a list of texts); min of a list of texts -/
namespace Cr
open PySem PySem.Spec PyProof.Rows L2
section
variable {P : Program} {w : World} {A : Around} {E : Value → Shared → Prop} {s : Shared}
theorem txtSet_at {h h' : Heap} {S : Addr} {l : List Str} (T : TxtSet P w h S l) (k : ∀ o, h.get? S = some o → h'.get? S = some o) : TxtSet P w h' S l := by
  obtain ⟨o, es, ep, t, ho, r⟩ := T
  exact ⟨o, es, ep, t, k o ho, r⟩
theorem ts_loop {I : Addr} {fp wr : List Addr} {G : Array GenState → Array GenState → Prop} {n : Nat} {Pv : Nat → Value → Prop} {St : Nat → Shared → Prop} {R : Result → Shared → Prop}
    (W : WalksS P w A.in1 I fp wr G n Pv St) {S : Addr} (outS : S ∉ fp) {ks : List Str} (en : n = ks.length) (few : ks.length < 4000) (val : ∀ i v, Pv i v → ∃ (k : Str) (tk : Tok), ks[i]? = some k ∧ v = Value.str k tk)
    {h0 : Heap} (newS : h0.get? S = none) (newW : ∀ b ∈ wr, h0.get? b = none)
    (hR : ∀ s' L, s'.gens = s.gens ∧ s'.drawn = s.drawn ∧ s'.os = s.os → TxtSet P w s'.heap S L → L.length = n → (∀ k, k ∈ L ↔ k ∈ ks) → (∀ b o, h0.get? b = some o → s'.heap.get? b = some o) → R (.ok (.ret .none)) s')
    (gq : ∀ {x y : Array GenState}, G x y → y = x) :
    ∀ (k i : Nat) (s1 : Shared), i + k = n → St i s1 → (s1.gens = s.gens ∧ s1.drawn = s.drawn ∧ s1.os = s.os) → (∀ b o, h0.get? b = some o → s1.heap.get? b = some o) → (∃ L, TxtSet P w s1.heap S L ∧ L.length = i ∧ ∀ k, k ∈ L ↔ k ∈ ks.take i) →
      codeAny (model P w) A (.builtin "set.update.loop" ⟨[.ref S, .ref I], []⟩) R s1
  | 0, i, s1, ei, st, sm, kp, ⟨L, T, ll, mL⟩ => by
    refine codeAny_builtin F.entry_set_update_loop ?_
    rw [Around.under_plainId F.plain_set_update_loop _]
    have ein : i = n := ei
    subst ein
    show wpAny _ A.in1 (pyNext (.ref I) >>= _) _ _ s1
    refine wpAny_bind (W.done s1 _ _ st fun s2 mv => ?_)
    refine wpAny_pure (hR s2 L ⟨(gq mv.gens).trans sm.1, mv.drawn.trans sm.2.1, mv.os.trans sm.2.2⟩ (txtSet_at T fun o ho => mv.heap S o (fun z => outS (W.sub _ z)) ho) ll (fun k => ?_) fun b o e => mv.heap b o (fun z => by rw [newW b z] at e; cases e) (kp b o e))
    rw [mL, en, List.take_length]
  | k + 1, i, s1, ei, st, sm, kp, ⟨L, T, ll, mL⟩ => by
    refine codeAny_builtin F.entry_set_update_loop ?_
    rw [Around.under_plainId F.plain_set_update_loop _]
    show wpAny _ A.in1 (pyNext (.ref I) >>= _) _ _ s1
    refine wpAny_bind (W.item i s1 _ _ (by omega) st fun v s2 hv st2 mv => ?_)
    obtain ⟨q, tk, hq, rfl⟩ := val i v hv
    have kp2 : ∀ b o, h0.get? b = some o → s2.heap.get? b = some o := fun b o e => mv.heap b o (fun z => by rw [newW b z] at e; cases e) (kp b o e)
    have T2 : TxtSet P w s2.heap S L := txtSet_at T fun o ho => mv.heap S o (fun z => outS (W.sub _ z)) ho
    show wpAny _ A.in1 (holding [Value.str q tk] (setAdd S (.str q tk)) >>= _) _ _ s2
    unfold setAdd
    refine wpAny_bind (wpAny_holding (wpAny_holding (wpAny_bind ((PySem.strKind P w).pyHash (strKind_is P w q tk) ?_))))
    refine txt_hashed (s := { s2 with toks := s2.toks + 1 }) T2 (by show _ + 1 < 4096; omega) fun b h3 sb T3 => ?_
    refine wpAny_pure ⟨plainId_quiet F.plain_set_update_loop _, ts_loop W outS en few val newS newW hR gq k (i + 1) _ (by omega) (W.frame _ s2 _ _ st2 (Nat.le_add_right _ _) fun b hb o e => ?_) ⟨(gq mv.gens).trans sm.1, mv.drawn.trans sm.2.1, mv.os.trans sm.2.2⟩ (fun b o e => ?_) ⟨q :: L, T3, by rw [List.length_cons, ll], fun x => ?_⟩⟩
    · exact (sb.2 b fun z : b = S => outS (z ▸ hb)).trans e
    · exact (sb.2 b fun z : b = S => by rw [z, newS] at e; cases e).trans (kp2 b o e)
    · rw [List.take_add_one, hq, List.mem_append, List.mem_cons, mL]
      show _ ↔ _ ∨ x ∈ [q]
      rw [List.mem_singleton]
      exact or_comm
/-- set(xs) of texts -/
theorem ts_set {l : Addr} {items : Array Value} {ks : List Str} {Q : Value → Shared → Prop} (hh : A.handled = none) (hl : s.heap.IsList l items) (sz : items.size = ks.length) (hi : ∀ (i : Nat) (v : Value), items[i]? = some v → ∃ (k : Str) (tk : Tok), ks[i]? = some k ∧ v = Value.str k tk) (few : ks.length < 4000)
    (h : ∀ h' n L, TxtSet P w h' s.heap.objs.size L → L.length = ks.length → (∀ k, k ∈ L ↔ k ∈ ks) → (∀ b o, s.heap.get? b = some o → h'.get? b = some o) → Q (.ref s.heap.objs.size) { s with heap := h', toks := n }) :
    wpAny (model P w) A (call (.type "set") [.ref l]) Q E s := by
  have lS : l < s.heap.objs.size := by
    obtain ⟨o, ho, _⟩ := hl
    exact Heap.lt_size ho
  have ps1 : (s.heap.push (freshO w)).objs.size = s.heap.objs.size + 1 := Heap.size_push ..
  have hl1 : (s.heap.push (freshO w)).IsList l items := hl.push _
  refine set_from (Z := fun s' => ∃ h' n L, s' = { s with heap := h', toks := n } ∧ TxtSet P w h' s.heap.objs.size L ∧ L.length = ks.length ∧ (∀ k, k ∈ L ↔ k ∈ ks) ∧ ∀ b o, s.heap.get? b = some o → h'.get? b = some o) hl ?_ fun s' z => ?_
  · have W := (Walks.list (prog := P) (w := w) (A := A.in1.in1.in1) (by simp [hh]) (s.heap.push (freshO w)).objs.size l (by rw [ps1]; exact Nat.ne_of_lt (Nat.lt_succ_of_lt lS)) items).toS
    refine ts_loop (s := s) W (S := s.heap.objs.size) (ks := ks) (h0 := s.heap) (by rw [ps1, List.mem_cons, List.mem_singleton, not_or]; exact ⟨Nat.ne_of_lt (Nat.lt_succ_self _), Nat.ne_of_gt lS⟩) sz few (fun i v hv => hi i v hv) (none_above (Nat.le_refl _)) (fun b hb => ?_) (fun s' L sm T ll mL kp => ⟨rfl, s'.heap, s'.toks, L, ?_, T, sz ▸ ll, mL, kp⟩) (fun e => e) items.size 0 _ (Nat.zero_add _) ⟨⟨_, Heap.get?_push_size _ rfl, rfl, rfl⟩, hl1.push _⟩ ⟨rfl, rfl, rfl⟩ (fun b o e => Heap.get?_push_of_some _ (Heap.get?_push_of_some _ e)) ⟨[], txtSet_at txt_fresh fun o ho => Heap.get?_push_of_some _ ho, rfl, fun k => by simp⟩
    · rw [List.mem_singleton.mp hb, ps1]
      exact none_above (Nat.le_succ _)
    · obtain ⟨h2, g2, d2, n2, o2⟩ := s'
      obtain ⟨e1, e2, e3⟩ := sm
      cases e1
      cases e2
      cases e3
      rfl
  · obtain ⟨h', n, L, rfl, T, ll, mL, kp⟩ := z
    exact h h' n L T ll mL kp
end
section
variable {X : Cx}
def rSetT (P : Program) (w : World) : List V → Hp → VK → Prop := fun vs H Q => ∃ (l : Addr) (ks : List Str), vs = [.ref l] ∧ H l = some (.lst (ks.map V.str)) ∧ ks.length < 4000 ∧
  ∀ a L, H a = none → L.length = ks.length → (∀ k, k ∈ L ↔ k ∈ ks) → Q (.ref a) (upd H a (TxtO P w a L))
theorem cr_setT (hc : X.calm = true) : CallR X (.type "set") (rSetT X.prog X.w) := by
  intro pins s σ H vs us Q I r h
  obtain ⟨l, ks, rfl, hl, few, q⟩ := h
  obtain ⟨u, rfl, ru⟩ := vals1 r
  obtain rfl : u = Value.ref l := ru
  obtain ⟨its, rv, pl, _⟩ := I.list (.inl (.inl hl))
  have len := rv.length
  rw [List.length_map] at len
  refine ts_set (ks := ks) (I.ok.hd hc) pl.isList (by rw [List.size_toArray]; exact len.symm) (fun i v hv => ?_) few fun h' n L T ll mL kp => ?_
  · have hv' : its[i]? = some v := by simpa using hv
    have lt : i < ks.length := by
      have := (List.getElem?_eq_some_iff.mp hv').1
      omega
    obtain ⟨u, hu, ru⟩ := rv.get (i := i) (x := .str ks[i]) (by rw [List.getElem?_map, List.getElem?_eq_getElem lt]; rfl)
    rw [hv'] at hu
    cases hu
    obtain ⟨tk, rfl⟩ := ru
    exact ⟨ks[i], tk, List.getElem?_eq_getElem lt, rfl⟩
  have hn : H s.heap.objs.size = none := I.hok.fresh (Nat.le_refl _)
  refine ⟨.ref s.heap.objs.size, _, I.laid (t' := n) kp (Nat.le_refl _) (txtO_new T), rfl, q _ L hn ll mL⟩
/-- len(a set of texts) -/
def rLenT (P : Program) (w : World) : List V → Hp → VK → Prop := fun vs H Q => ∃ (a : Addr) (L ks : List Str), vs = [.ref a] ∧ H a = some (TxtO P w a L) ∧ ks.Nodup ∧ (∀ k, k ∈ L ↔ k ∈ ks) ∧ ks.length ≤ 4000 ∧ Q (.int ks.length) H
theorem same_len {xs ys : List Str} (h1 : xs.Nodup) (h2 : ys.Nodup) (h : ∀ k, k ∈ xs ↔ k ∈ ys) : xs.length = ys.length :=
  Nat.le_antisymm (nodup_len h1 fun k hk => (h k).mp hk) (nodup_len h2 fun k hk => (h k).mpr hk)
theorem call_lenT : CallR X (.builtin "len") (rLenT X.prog X.w) := by
  intro pins s σ H vs us Q I r h
  obtain ⟨a, L, ks, rfl, ha, nd, mem, few, q⟩ := h
  obtain ⟨u, rfl, ru⟩ := vals1 r
  obtain rfl : u = Value.ref a := ru
  obtain ⟨o, es, ep, t, ho, hx, hd, T⟩ := txtO_get I ha
  have e : es.size = ks.length := by
    have z := same_len T.once nd fun k => (T.mem k).symm.trans (mem k)
    rw [← z]
    simp [txts]
  exact call_len_set ho hx hd T.fit (by rw [e]; omega) ⟨.int ks.length, H, I.tok _, ⟨_, by rw [e]⟩, q⟩
theorem lt_sD (x y : Str) : PySem.W.dataLt (.str x) (.str y) = true ↔ ltS x y := by
  rw [PySem.W.dataLt_str, decide_eq_true_eq]
  rfl
theorem min_sD {m : Str} : ∀ (ks : List Str) (k : Str), m ∈ k :: ks → (∀ r ∈ k :: ks, m = r ∨ ltS m r) → PySem.W.minD (.str k) (ks.map PyData.str) = .str m
  | [], k, h, _ => by
    rw [List.mem_singleton.mp h]
    rfl
  | y :: ks, k, h, hl => by
    have step : PySem.W.minD (.str k) ((y :: ks).map PyData.str) = PySem.W.minD (if PySem.W.dataLt (.str y) (.str k) then .str y else .str k) (ks.map PyData.str) := rfl
    rw [step]
    have hy := hl y (List.mem_cons_of_mem _ List.mem_cons_self)
    have hk := hl k List.mem_cons_self
    by_cases d : PySem.W.dataLt (.str y) (.str k) = true
    · rw [if_pos d]
      have d' := (lt_sD y k).mp d
      refine min_sD ks y ?_ fun r hr => hl r (List.mem_cons_of_mem _ hr)
      rcases List.mem_cons.mp h with rfl | h
      · rcases hy with rfl | hy
        · exact List.mem_cons_self
        · exact absurd (ltS_trans hy d') (ltS_irrefl _)
      · exact h
    · rw [if_neg d]
      have d' : ¬ ltS y k := fun z => d ((lt_sD y k).mpr z)
      refine min_sD ks k ?_ fun r hr => ?_
      · rcases List.mem_cons.mp h with h | h
        · rw [h]; exact List.mem_cons_self
        · rcases List.mem_cons.mp h with h | h
          · rcases hk with hk | hk
            · rw [hk]; exact List.mem_cons_self
            · rw [h] at hk; exact absurd hk d'
          · exact List.mem_cons_of_mem _ h
      · rcases List.mem_cons.mp hr with rfl | hr
        · exact hk
        · exact hl r (List.mem_cons_of_mem _ (List.mem_cons_of_mem _ hr))
theorem strs_depth : ∀ ks : List Str, PyData.depthAll (ks.map PyData.str) ≤ 1
  | [] => Nat.zero_le _
  | k :: ks => by
    rw [List.map_cons, PyData.depthAll]
    exact Nat.max_le.mpr ⟨Nat.zero_le _, strs_depth ks⟩
theorem dts_txt {H : Hp} : ∀ ks : List Str, DtAll H (ks.map V.str) (ks.map PyData.str)
  | [] => .nil
  | k :: ks => .cons (.str k) (dts_txt ks)
/-- min(a list of texts) -/
def rMinS : List V → Hp → VK → Prop := fun vs H Q => ∃ (a : Addr) (ks : List Str) (m : Str), vs = [.ref a] ∧ H a = some (.lst (ks.map V.str)) ∧ m ∈ ks ∧ (∀ k ∈ ks, m = k ∨ ltS m k) ∧ Q (.str m) H
theorem cr_minS (hc : X.calm = true) (hu : X.A.units + 64 < cLine) : CallR X (.builtin "min") rMinS := by
  intro pins s σ H vs us Q I r h
  obtain ⟨a, ks0, m, rfl, ha, hm, hl, q⟩ := h
  obtain ⟨k, ks, rfl⟩ : ∃ k ks, ks0 = k :: ks := by
    cases ks0 with
    | nil => exact nomatch hm
    | cons k ks => exact ⟨k, ks, rfl⟩
  obtain ⟨its, rv, hls, _⟩ := I.list (.inl (.inl ha))
  obtain ⟨u, rfl, ru⟩ := vals1 r
  obtain rfl : u = Value.ref a := ru
  obtain ⟨as, ra⟩ := reads_all I (dts_txt (H := H) (k :: ks)) rv
  have dp := strs_depth (k :: ks)
  refine PySem.W.min_list_data (I.ok.hd hc) hls.isList (by simpa using ra) ⟨fun x hx' y hy' => ?_, fun x hx' => ?_⟩ (by show X.A.units + 1 + PyData.depthAll ((k :: ks).map PyData.str) < cLine; omega) fun i v h' tk bs hv hrd hk => ?_
  · obtain ⟨p1, _, rfl⟩ := List.mem_map.mp (show x ∈ (k :: ks).map PyData.str from hx')
    obtain ⟨p2, _, rfl⟩ := List.mem_map.mp (show y ∈ (k :: ks).map PyData.str from hy')
    simp [PySem.W.alike]
  · obtain ⟨p1, _, rfl⟩ := List.mem_map.mp (show x ∈ (k :: ks).map PyData.str from hx')
    exact fun z => by cases z
  have J := I.kept (t' := tk) hk
  rw [min_sD ks k hm hl] at hrd
  obtain ⟨x, hxi, rx⟩ := vals_at rv (by simpa using hv)
  rw [List.getElem?_map] at hxi
  obtain ⟨p1, _, rfl⟩ : ∃ p1, (k :: ks)[i]? = some p1 ∧ V.str p1 = x := by
    cases hh : (k :: ks)[i]? with
    | none => rw [hh] at hxi; cases hxi
    | some z => rw [hh] at hxi; exact ⟨z, rfl, Option.some.inj hxi⟩
  obtain ⟨tk2, rfl⟩ := rx
  cases hrd
  exact ⟨.str m, H, J, ⟨tk2, rfl⟩, q⟩
end
end Cr
/-! sorted(set(pairs of texts)) -/
namespace Cr
open PySem PySem.Spec PyProof.Rows L2 Evl
theorem perm_mapped {α β : Type} (f : α → β) : ∀ {vs : List β} {L : List α}, vs.Perm (L.map f) → ∃ M : List α, M.Perm L ∧ vs = M.map f
  | [], L, h => by
    have z := h.length_eq
    rw [List.length_map] at z
    exact ⟨[], by rw [List.eq_nil_of_length_eq_zero z.symm], rfl⟩
  | v :: vs, L, h => by
    obtain ⟨q, hq, rfl⟩ := List.mem_map.mp (h.mem_iff.mp List.mem_cons_self)
    obtain ⟨A, B, rfl⟩ := List.append_of_mem hq
    have z : ((A ++ q :: B).map f).Perm (f q :: (A ++ B).map f) := (List.perm_middle (l₁ := A) (l₂ := B) (a := q)).map f
    obtain ⟨M, pM, rfl⟩ := perm_mapped f (List.Perm.cons_inv (h.trans z))
    exact ⟨q :: M, (pM.cons q).trans List.perm_middle.symm, rfl⟩
abbrev PRow := Addr × Pr
def rowT (q : PRow) : TRow := (q.1, [q.2.1, q.2.2])
theorem rowT_inj {p q : PRow} (h : (rowT p).2 = (rowT q).2) : p.2 = q.2 := by
  have e : [p.2.1, p.2.2] = [q.2.1, q.2.2] := h
  injection e with e1 e2
  injection e2 with e2 _
  exact Prod.ext e1 e2
theorem rowT_list : ∀ {L : List TRow} {ks : List PRow}, (∀ p ∈ L, p ∈ ks.map rowT) → ∃ M : List PRow, L = M.map rowT ∧ ∀ q ∈ M, q ∈ ks
  | [], _, _ => ⟨[], rfl, fun _ z => nomatch z⟩
  | p :: L, ks, h => by
    obtain ⟨q, hq, rfl⟩ := List.mem_map.mp (h p List.mem_cons_self)
    obtain ⟨M, rfl, hM⟩ := rowT_list (L := L) fun x hx => h x (List.mem_cons_of_mem _ hx)
    exact ⟨q :: M, rfl, fun x hx => by
      rcases List.mem_cons.mp hx with rfl | hx
      · exact hq
      · exact hM x hx⟩
theorem each_of_list {β : Type} {R : Value → β → Prop} (f : β → Value) : ∀ (M : List β), (∀ q ∈ M, R (f q) q) → PySem.W.EachIs R (M.map f) M
  | [], _ => .nil
  | q :: M, h => .cons (h q List.mem_cons_self) (each_of_list f M fun x hx => h x (List.mem_cons_of_mem _ hx))
theorem list_of_each {β : Type} (f : β → Value) : ∀ {out : List Value} {M : List β}, PySem.W.EachIs (fun v q => v = f q) out M → out = M.map f
  | _, _, .nil => rfl
  | _, _, .cons h t => by rw [h, list_of_each f t]; rfl
section
variable {P : Program} {w : World} {A : Around} {E : Value → Shared → Prop} {s : Shared} {a : Addr} {M : List PRow} {es : Array (Int × Value)} {ep : Nat} {t : SetTable} {ps : List (Int × Nat)}
theorem reads_pair {h : Heap} {q : PRow} (z : IsTx P w h (rowT q).2 q.1) : Reads h (.ref q.1) (pD q.2) [] := by
  obtain ⟨o, items, n, ho, hc, hd, hi⟩ := z
  have two : ∀ {vs : List Value}, ItemsAre (PySem.strKind P w) [q.2.1, q.2.2] vs → ReadsAll h vs [.str q.2.1, .str q.2.2] [] := fun {vs} hv => by
    have one : ∀ {k : Str} {v : Value}, (PySem.strKind P w).is k v = true → Reads h v (.str k) [] := fun {k v} e => by
      cases v with
      | str x tk =>
        have ex : x = k := by simpa [PySem.strKind, Value.isStrOf] using e
        subst ex
        exact .str x tk
      | _ => cases e
    cases hv with
    | cons h1 r =>
      cases r with
      | cons h2 r2 =>
        cases r2
        exact ReadsAll.cons (as := []) (bs := []) (one h1) (ReadsAll.cons (as := []) (bs := []) (one h2) .nil)
  exact .tuple ho hc hd (two hi)
theorem up_size {h : Heap} (o : Obj) : (h.push o).objs.size = h.objs.size + 1 := by simp [Heap.push]
theorem tx_sorted {Q : Value → Shared → Prop} (R : TSet P w s.heap a (M.map rowT) es ep t ps) (hh : A.handled = none) (hu : A.units + 64 < cLine) (few : M.length < 300)
    (hQ : ∀ s' p (out : Array Value) (c : Nat) (N : List PRow), (∀ b o, s.heap.get? b = some o → s'.heap.get? b = some o) → s'.gens = s.gens → s'.os = s.os → s.heap.objs.size ≤ p → s'.heap.get? p = some (seqObj "list" out c) →
      out.toList = N.map (fun q => Value.ref q.1) → N.Perm M → N.map (·.2) = srtP (M.map (·.2)) → Q (.ref p) s') : wpAny (model P w) A (call (.builtin "sorted") [.ref a]) Q E s := by
  obtain ⟨o, ho, hx, hd⟩ := R.ob
  have ⟨l1, l2⟩ := R.len
  rw [List.length_map] at l1 l2
  refine Calls.call_function_entry kind_sorted plain_sorted entry_sorted (args_sorted1 _) ?_
  unfold Builtin.«sorted»
  refine wpAny_bind (m := checkCount "sorted" 1 1 _) (wpAny_pure (wpAny_bind (L2.collect_set (A := A.in1) hh ⟨o, ho, hx.1, hd⟩ R.fits (by unfold scanBound; omega) R.tbl.ris R.led fun s1 vs k1 hz g1 o1 pm => ?_)))
  have pm2 : vs.Perm (M.map fun q => Value.ref q.1) := by
    rw [R.rows, List.map_map, List.map_map] at pm
    exact pm
  obtain ⟨M1, pM, rfl⟩ := perm_mapped _ pm2
  have lM : M1.length = M.length := pM.length_eq
  refine wpAny_bind (wpAny_newList ?_ (by rw [List.length_map, lM, sizeLine_eq]; omega))
  have at1 : (s1.heap.push (seqObj "list" (M1.map fun q => Value.ref q.1).toArray 0)).get? s1.heap.objs.size = some (seqObj "list" (M1.map fun q => Value.ref q.1).toArray 0) := Heap.get?_push_size _ rfl
  refine wpAny_bind (wpAny_holding (PySem.W.list_sort_data (β := PRow) (enc := fun q => pD q.2) (R := fun v q => v = Value.ref q.1) (s := { s1 with heap := s1.heap.push (seqObj "list" (M1.map fun q => Value.ref q.1).toArray 0) }) at1 (each_of_list _ M1 fun _ _ => rfl) (each_of_list _ M1 fun q hq => ?_) (.of fun _ _ => rfl) (.tuples fun _ => ⟨_, _, rfl⟩) (by rw [lM, sizeLine_eq]; omega) (fun q _ => ?_) fun out lo eo => ?_))
  · refine ⟨[], reads_pair (P := P) (w := w) ?_, fun z => nomatch z⟩
    exact tx_kept (R.tup _ (List.mem_map_of_mem (pM.mem_iff.mp hq))) fun c u e => Heap.get?_push_of_some _ (k1 c u e)
  · have dp : (pD q.2).depth = 1 := rfl
    rw [dp]
    show A.in1.units + 1 + 1 < cLine
    have : A.in1.units ≤ A.units + 1 := by simp [Around.in1]
    omega
  · obtain ⟨c, hc⟩ := sortedHeap_at (vs := M1.map fun q => Value.ref q.1) (out := out.toArray) at1
    have pS := List.mergeSort_perm M1 (PySem.W.dataLe false fun q : PRow => pD q.2)
    refine wpAny_pure ⟨_, rfl, hQ _ s1.heap.objs.size out.toArray c _ (fun b u e => ?_) g1 o1 hz hc (list_of_each (fun q : PRow => Value.ref q.1) eo) (pS.trans pM) ?_⟩
    · have lt := Heap.lt_size (k1 b u e)
      show (sortedHeap _ s1.heap.objs.size _ _).get? b = some u
      rw [sortedHeap_old (Nat.ne_of_lt lt) (by rw [up_size]; exact Nat.lt_succ_of_lt lt)]
      exact Heap.get?_push_of_some _ (k1 b u e)
    · rw [List.map_mergeSort (f := fun q : PRow => q.2) (r := PySem.W.dataLe false fun q : PRow => pD q.2) (s := leP) fun _ _ _ _ => rfl]
      show srtP (M1.map fun q : PRow => q.2) = srtP (M.map fun q : PRow => q.2)
      refine ((srtP_perm _).trans ((pM.map fun q : PRow => q.2).trans (srtP_perm _).symm)).eq_of_pairwise (le := fun x y => leP x y = true) (fun x y _ _ h1 h2 => ?_) (List.pairwise_mergeSort leP_trans leP_total _) (List.pairwise_mergeSort leP_trans leP_total _)
      rcases ltP2_tri x y with z | z | z
      · exact absurd z (leP_iff.mp h2)
      · exact z
      · exact absurd z (leP_iff.mp h1)
end
/-! ### over the tracked heap -/
def PSetO (P : Program) (w : World) (a : Addr) (M : List PRow) : HO := .ext fun h => ∃ es ep t ps, (∃ o, h.get? a = some o ∧ o.ExactSet ∧ o.data = .set es ep t) ∧ es.toList = (M.map rowT).map (rowV P w) ∧ Tbl t ps ∧ ps.map (·.1) = (M.map rowT).map (fun p => hTx P w p.2) ∧ ((M.map rowT).map (·.2)).Nodup ∧
  (w.params.followText "set-order" = true ∨ t.led = true) ∧ (M.map rowT).length * 5 < t.mask * 3
theorem pSetO_new {P : Program} {w : World} {H : Hp} {h : Heap} {a : Addr} {M : List PRow} {es : Array (Int × Value)} {ep : Nat} {t : SetTable} {ps : List (Int × Nat)} (R : TSet P w h a (M.map rowT) es ep t ps) : ObjOk P w H h a (PSetO P w a M) := by
  obtain ⟨o, ho, r⟩ := R.ob
  refine ⟨⟨es, ep, t, ps, R.ob, R.rows, R.tbl, R.hash, R.once, R.led, R.room⟩, ⟨o, ho⟩, fun h1 h2 z k => ?_⟩
  obtain ⟨es', ep', t', ps', ⟨o', ho', r'⟩, q⟩ := z
  exact ⟨es', ep', t', ps', ⟨o', k o' ho', r'⟩, q⟩
section
variable {X : Cx} {pins : List (Addr × Obj)} {σ : L2.St} {H : Hp} {s : Shared}
theorem dt_pair {v : V} {q : Pr} (h : Dt H v (pD q)) : ∃ a, v = .ref a ∧ H a = some (.tup [.str q.1, .str q.2]) := by
  cases h with
  | tup h1 h2 =>
    cases h2 with
    | cons a1 r =>
      cases a1
      cases r with
      | cons a2 r2 =>
        cases a2
        cases r2
        exact ⟨_, rfl, h1⟩
theorem inv_pair (I : Inv X pins σ H s) {q : PRow} (h : H q.1 = some (.tup [.str q.2.1, .str q.2.2])) : IsTx X.prog X.w s.heap (rowT q).2 q.1 := by
  obtain ⟨its, rv, ⟨o, ho, hc, n, hd⟩, _⟩ := I.tuple (.inl (.inl h))
  refine ⟨o, its.toArray, n, ho, hc, hd, ?_⟩
  show ItemsAre _ [q.2.1, q.2.2] its
  cases rv with
  | cons r1 r =>
    obtain ⟨t1, rfl⟩ := r1
    cases r with
    | cons r2 r =>
      obtain ⟨t2, rfl⟩ := r2
      cases r
      exact .cons (strKind_is _ _ _ _) (.cons (strKind_is _ _ _ _) .nil)
theorem rows_of {xs : List V} : ∀ {ps : List Pr}, DtAll H xs (ps.map pD) → ∃ ks : List PRow, xs = ks.map (fun q => .ref q.1) ∧ ks.map (·.2) = ps ∧ ∀ q ∈ ks, H q.1 = some (.tup [.str q.2.1, .str q.2.2]) := by
  induction xs with
  | nil =>
    intro ps h
    cases ps with
    | nil => exact ⟨[], rfl, rfl, fun _ z => nomatch z⟩
    | cons p ps => cases h
  | cons x xs ih =>
    intro ps h
    cases ps with
    | nil => cases h
    | cons p ps =>
      cases h with
      | cons h1 h2 =>
        obtain ⟨a, rfl, ha⟩ := dt_pair h1
        obtain ⟨ks, rfl, rfl, hk⟩ := ih h2
        exact ⟨(a, p) :: ks, rfl, rfl, fun q hq => by
          rcases List.mem_cons.mp hq with rfl | hq
          · exact ha
          · exact hk q hq⟩
theorem rows_dt : ∀ {N : List PRow}, (∀ q ∈ N, H q.1 = some (.tup [.str q.2.1, .str q.2.2])) → DtAll H (N.map fun q => .ref q.1) ((N.map (·.2)).map pD)
  | [], _ => .nil
  | q :: N, h => .cons (.tup (h q List.mem_cons_self) (.cons (.str _) (.cons (.str _) .nil))) (rows_dt fun x hx => h x (List.mem_cons_of_mem _ hx))
/-- set(xs) -/
def rSetP (P : Program) (w : World) : List V → Hp → VK → Prop := fun vs H Q => ∃ (l : Addr) (xs : List V) (ps : List Pr), vs = [.ref l] ∧ H l = some (.lst xs) ∧ DtAll H xs (ps.map pD) ∧ ps.length < 300 ∧
  ∀ a M, H a = none → (∀ q ∈ M, H q.1 = some (.tup [.str q.2.1, .str q.2.2])) → (M.map (·.2)).Nodup → (∀ p, p ∈ M.map (·.2) ↔ p ∈ ps) → Q (.ref a) (upd H a (PSetO P w a M))
theorem cr_setP (hc : X.calm = true) (hu : X.A.units + 64 < cLine) : CallR X (.type "set") (rSetP X.prog X.w) := by
  intro pins s σ H vs us Q I r h
  obtain ⟨l, xs, ps, rfl, hl, hx, few, q⟩ := h
  obtain ⟨u, rfl, ru⟩ := vals1 r
  obtain rfl : u = Value.ref l := ru
  obtain ⟨its, rv, pl, _⟩ := I.list (.inl (.inl hl))
  obtain ⟨ks, rfl, rfl, hk⟩ := rows_of hx
  rw [List.length_map] at few
  have refs : ∀ {ks : List PRow} {us : List Value}, Vals (ks.map fun q => V.ref q.1) us → us = (ks.map rowT).map fun p => Value.ref p.1 := by
    intro ks
    induction ks with
    | nil => intro us z; cases z; rfl
    | cons k ks ih =>
      intro us z
      cases z with
      | cons z1 z2 =>
        cases z1
        rw [ih z2]
        rfl
  refine tx_set (P := X.prog) (w := X.w) (ks := ks.map rowT) (I.ok.hd hc) pl.isList (by simpa using refs rv) (fun p hp => ?_) (by rw [List.length_map]; exact few) (by omega) fun h' n L es ep t qs T g kp => ?_
  · obtain ⟨q, hq, rfl⟩ := List.mem_map.mp hp
    exact inv_pair I (hk q hq)
  · rw [List.length_map] at g
    obtain ⟨M, rfl, hM⟩ := rowT_list (L := L) (ks := ks) fun p hp => List.mem_of_mem_take (g.of p hp)
    refine ⟨.ref s.heap.objs.size, upd H s.heap.objs.size (PSetO X.prog X.w s.heap.objs.size M), I.laid (t' := n) kp (Nat.le_refl _) (pSetO_new T), rfl, q _ M (I.hok.fresh (Nat.le_refl _)) (fun q hq => hk q (hM q hq)) ?_ fun p => ⟨fun hp => ?_, fun hp => ?_⟩⟩
    · have z := T.once
      rw [List.map_map] at z
      refine List.pairwise_map.mpr ((List.pairwise_map.mp z).imp fun {x y} ne e => ne ?_)
      show [x.2.1, x.2.2] = [y.2.1, y.2.2]
      rw [e]
    · obtain ⟨q, hq, rfl⟩ := List.mem_map.mp hp
      exact List.mem_map_of_mem (hM q hq)
    · obtain ⟨q, hq, rfl⟩ := List.mem_map.mp hp
      have z := g.has (rowT q) (by rw [List.take_of_length_le (by rw [List.length_map]; exact Nat.le_refl _)]; exact List.mem_map_of_mem hq)
      rw [List.map_map] at z
      obtain ⟨q2, hq2, e⟩ := List.mem_map.mp z
      exact List.mem_map.mpr ⟨q2, hq2, rowT_inj e⟩
/-- sorted(a set of pairs) -/
def rSortSP (P : Program) (w : World) : List V → Hp → VK → Prop := fun vs H Q => ∃ (a : Addr) (M : List PRow), vs = [.ref a] ∧ H a = some (PSetO P w a M) ∧ (∀ q ∈ M, H q.1 = some (.tup [.str q.2.1, .str q.2.2])) ∧ M.length < 300 ∧
  ∀ ys p, H p = none → DtAll H ys ((srtP (M.map (·.2))).map pD) → Q (.ref p) (upd H p (.lst ys))
theorem cr_sortSP (hc : X.calm = true) (hu : X.A.units + 64 < cLine) : CallR X (.builtin "sorted") (rSortSP X.prog X.w) := by
  intro pins s σ H vs us Q I r h
  obtain ⟨a, M, rfl, ha, hM, few, q⟩ := h
  obtain ⟨u, rfl, ru⟩ := vals1 r
  obtain rfl : u = Value.ref a := ru
  obtain ⟨es, ep, t, ps, z1, z2, z3, z4, z5, z6, z7⟩ := (I.hok a _ ha).1
  have R : TSet X.prog X.w s.heap a (M.map rowT) es ep t ps := ⟨z1, z2, z3, z4, z5, fun p hp => by
    obtain ⟨x, hx, rfl⟩ := List.mem_map.mp hp
    exact inv_pair I (hM x hx), z6, z7⟩
  refine tx_sorted R (I.ok.hd hc) hu few fun s' p out c N kp g o hp hg ho pN eN => ?_
  have hN : ∀ q ∈ N, H q.1 = some (.tup [.str q.2.1, .str q.2.2]) := fun q hq => hM q (pN.mem_iff.mp hq)
  have vals : ∀ {N : List PRow}, Vals (N.map fun q => V.ref q.1) (N.map fun q => Value.ref q.1) := by
    intro N
    induction N with
    | nil => exact .nil
    | cons q N ih => exact .cons rfl ih
  have lz : (N.map fun q => V.ref q.1).length ≤ sizeLine := by rw [List.length_map, pN.length_eq, sizeLine_eq]; omega
  have hn : H p = none := I.hok.fresh hp
  have J : Inv X pins σ (upd H p (.lst (N.map fun q => V.ref q.1))) { s with heap := s'.heap, gens := s'.gens, drawn := s'.drawn, toks := s'.toks } :=
    I.call (ch := []) (Un.laid kp hp hn) (I.hok.laid kp hp ⟨lz, out.toList, c, by rw [ho]; exact vals, hg⟩) (by rw [g]; exact I.bare) (fun _ z => nomatch z)
  obtain ⟨h2, g2, d2, t2, os2⟩ := s'
  have o' : os2 = s.os := o
  subst o'
  refine ⟨.ref p, _, J, rfl, q _ p hn ?_⟩
  rw [← eN]
  exact rows_dt hN
end
end Cr
/-! names and a graph of needs drawn: _law_net, _law_filled -/
namespace Cr
open PySem PySem.Spec PyProof.Rows L2 Evl
abbrev sNet : Stmt := topS 19
abbrev sFilled : Stmt := topS 20
abbrev nNet : List Str := ["_law_pot_here", "_law_most", "_law_names", "_law_shape", "_law_found", "_law_one", "_law_other", "_law_ring"]
theorem scNet : FnScope nNet ["_law_pot_here", "_law_most"] (defScope sNet) := ⟨rfl, rfl, rfl, by decide +kernel, rfl, by decide +kernel, by decide +kernel⟩
abbrev nFilled : List Str := ["_law_rows", "_law_made", "_law_source", "_law_target"]
theorem scFilled : FnScope nFilled ["_law_rows"] (defScope sFilled) := ⟨rfl, rfl, rfl, by decide +kernel, rfl, by decide +kernel, by decide +kernel⟩
def spNet : Sp := fun vs H Q _ => ∃ (p : Addr) (m : Nat), vs = [.ref p, .int (m : Int)] ∧ Pot H p ∧ 1 ≤ m ∧ m ≤ 9 ∧
  ∀ (T ln lr : Addr) (ns : List Str) (ps : List Pr) (HB H' : Hp), Drew p H HB → HB ln = some (.lst (ns.map V.str)) → ln ≠ p → 0 < ns.length → ns.length ≤ m → ns.Nodup → (∀ n ∈ ns, isNameS n = true) → Drew p HB H' → HB lr = none → H' T = some (.tup [.ref ln, .ref lr]) → Dt (wo p H') (.ref lr) (.list (ps.map pD)) → ps.Nodup → (∀ q ∈ ps, q.1 ∈ ns ∧ q.2 ∈ ns) → Q (.ref T) H'
def spFilled (C : Addr) : Sp := fun vs H Q _ => ∃ (lr : Addr) (ps : List Pr) (U : List Str), vs = [.ref lr] ∧ Dt H (.ref lr) (.list (ps.map pD)) ∧ (∀ q ∈ ps, q.1 ∈ U ∧ q.2 ∈ U) ∧ (∀ n ∈ U, isNameS n = true) ∧ U.length ≤ 62 ∧ ∀ x A g H', Ex H H' → NewG C H H' x A U g → (∀ q : Pr, q.2 ∈ tgS g q.1 ↔ q ∈ ps) → Q (.ref x) H'
theorem take_memB {α : Type} {l : List α} {j : Nat} {a b : α} (h : l[j]? = some a) : b ∈ l.take (j + 1) ↔ (b ∈ l.take j ∨ b = a) := by
  rw [List.take_add_one, h, List.mem_append]
  show _ ∨ b ∈ [a] ↔ _
  rw [List.mem_singleton]
/-- a pair at the end of a list of pairs -/
theorem app_pD {p lf T : Addr} {H H' : Hp} {fs : List Pr} {xs : List V} {q : Pr} (hd : DtAll (wo p H) xs (fs.map pD)) (hx : H lf = some (.lst xs)) (e : Ex H H') (hT : H' T = some (.tup [.str q.1, .str q.2])) (nT : T ≠ p) (nl : lf ≠ p) : Dt (wo p (upd H' lf (.lst (xs ++ [.ref T])))) (.ref lf) (.list ((fs ++ [q]).map pD)) := by
  have hx' := e _ _ hx
  refine .lst (by rw [wo_ne nl, upd_same]) (tups_keep (H := H') (fun {S ys} hS => ?_) ?_)
  · obtain ⟨n, hS⟩ := wo_some hS
    rw [wo_ne n, upd_ne (fun z => by rw [z, hx'] at hS; cases hS)]
    exact hS
  · rw [List.map_append]
    exact dtAll_app (DtAll.ex (Ex.wo e) hd) (.cons (.tup (by rw [wo_ne nT]; exact hT) (.cons (.str _) (.cons (.str _) .nil))) .nil)
/-- lists drawn of pairs -/
theorem drawn_prs {p : Addr} {H : Hp} {xs : List V} {ps : List Pr} {bs : List (V × PyData)} (hd : DtAll (wo p H) xs (ps.map pD)) (pm : bs.Perm (xs.zip (ps.map pD))) : ∃ qs : List Pr, qs.Perm ps ∧ DtAll (wo p H) (bs.map (·.1)) (qs.map pD) := by
  obtain ⟨z1, z2, z3⟩ := dtAll_zip hd
  have pm2 := pm.map (·.2)
  rw [z2] at pm2
  obtain ⟨qs, h1, h2⟩ := perm_mapped pD pm2
  refine ⟨qs, h1, ?_⟩
  rw [← h2]
  exact dtAll_of fun b hb => z1 b (pm.mem_iff.mp hb)
theorem drawn_strs {ns : List Str} {ds : List PyData} {bs : List (V × PyData)} (hl : ds.length = ns.length) (pm : bs.Perm ((ns.map V.str).zip ds)) : ∃ rs : List Str, rs.Perm ns ∧ bs.map (·.1) = rs.map V.str := by
  have pm2 := pm.map (·.1)
  rw [List.map_fst_zip (by rw [List.length_map, hl]; exact Nat.le_refl _)] at pm2
  exact perm_mapped V.str pm2
theorem prs_sub {ps : List Pr} {es : List PyData} (h : ∀ e ∈ es, e ∈ ps.map pD) : ∃ qs : List Pr, es = qs.map pD ∧ ∀ q ∈ qs, q ∈ ps := by
  induction es with
  | nil => exact ⟨[], rfl, by simp⟩
  | cons e r ih =>
    obtain ⟨qs, e1, h1⟩ := ih fun z hz => h z (List.mem_cons_of_mem _ hz)
    obtain ⟨q0, hq0, rfl⟩ := List.mem_map.mp (h e List.mem_cons_self)
    exact ⟨q0 :: qs, by rw [e1]; rfl, fun z hz => by
      rcases List.mem_cons.mp hz with rfl | hz
      · exact hq0
      · exact h1 z hz⟩
theorem strs_sub {ns : List Str} {es : List PyData} (h : ∀ e ∈ es, e ∈ ns.map PyData.str) : ∃ rs : List Str, es = rs.map PyData.str ∧ ∀ r ∈ rs, r ∈ ns := by
  induction es with
  | nil => exact ⟨[], rfl, by simp⟩
  | cons e r ih =>
    obtain ⟨qs, e1, h1⟩ := ih fun z hz => h z (List.mem_cons_of_mem _ hz)
    obtain ⟨q0, hq0, rfl⟩ := List.mem_map.mp (h e List.mem_cons_self)
    exact ⟨q0 :: qs, by rw [e1]; rfl, fun z hz => by
      rcases List.mem_cons.mp hz with rfl | hz
      · exact hq0
      · exact h1 z hz⟩
theorem pigeonP {l k : List Pr} (nd : l.Nodup) (h : ∀ q ∈ l, q ∈ k) : l.length ≤ k.length := by
  induction l generalizing k with
  | nil => exact Nat.zero_le _
  | cons w ws ih =>
    rw [List.nodup_cons] at nd
    have hw := h w List.mem_cons_self
    have z := ih (k := k.erase w) nd.2 fun q hq => (List.mem_erase_of_ne (fun e : q = w => nd.1 (by rw [← e]; exact hq))).mpr (h q (List.mem_cons_of_mem _ hq))
    rw [List.length_erase_of_mem hw] at z
    have := List.length_pos_of_mem hw
    rw [List.length_cons]
    omega
theorem str_at {ns : List Str} {i : Nat} {v : V} (h : (ns.map V.str)[i]? = some v) : ∃ n, ns[i]? = some n ∧ n ∈ ns ∧ V.str n = v := by
  rw [List.getElem?_map] at h
  cases hh : ns[i]? with
  | none => rw [hh] at h; cases h
  | some z => rw [hh] at h; exact ⟨z, rfl, List.mem_of_getElem? hh, Option.some.inj h⟩
theorem NewG.back {C : Addr} {HB H0 H : Hp} {p x : Addr} {A : NdA} {U : List Str} {g : List Row} (h : NewG C H0 H x A U g) (r : Drew p HB H0) (pot : Pot HB p) : NewG C HB H x A U g := ⟨h.nd, fresh_drew r pot h.zx, fresh_drew r pot h.zd, fun y hy => fresh_drew r pot (h.za y hy)⟩
theorem Kp.few9 {C : Addr} {HB H : Hp} {p x lp : Addr} {A : NdA} {g : List Row} {ns : List Str} {ps : List Pr} (h : Kp C HB H p x lp A g ns ps) (l9 : ns.length ≤ 9) : ps.length ≤ 81 := by
  have z := pigeonP (k := ns.flatMap fun a => ns.map fun b => ((a, b) : Pr)) h.dis fun q hq => by
    have u := h.ng.nd.ok.tgU ((h.hm q).mpr hq)
    exact List.mem_flatMap.mpr ⟨q.1, u.1, List.mem_map.mpr ⟨q.2, u.2, rfl⟩⟩
  have e : ∀ l : List Str, (l.flatMap fun a => ns.map fun b => ((a, b) : Pr)).length = l.length * ns.length := by
    intro l
    induction l with
    | nil => simp
    | cons a r ih => rw [List.flatMap_cons, List.length_append, ih, List.length_map, List.length_cons, Nat.succ_mul, Nat.add_comm]
  rw [e] at z
  exact Nat.le_trans z (Nat.le_trans (Nat.mul_le_mul l9 l9) (by decide))
section
variable {P : Program} {w : World} {K : PySem.W.Frag} {mg : Str → Option Value} {base : Heap}
theorem ok_net {f : Addr} {fd : FuncData} {k : Nat} (F : Fun K "_law_net" "_law_net" sNet f fd) (B : Blt mg) (h1 : Has P w K mg base k "_law_draw" ["_law_pot_here", "_law_bound"] spDraw) (h3 : Has P w K mg base k "_law_words" ["_law_pot_here", "_law_number"] spWords) (h4 : Has P w K mg base k "_law_mixed" ["_law_pot_here", "_law_options"] spMixed) : FnG P w K mg base CX0 (k + 1) f fd ["_law_pot_here", "_law_most"] spNet := by
  obtain ⟨f1, d1, G1, b1, k1, g1⟩ := h1.ex
  obtain ⟨f3, d3, G3, b3, k3, g3⟩ := h3.ex
  obtain ⟨f4, d4, G4, b4, k4, g4⟩ := h4.ex
  refine okG F scNet (fun vs H Q E h => by obtain ⟨_, _, rfl, _⟩ := h; rfl) (fun cdv A outer s H vs Q E hq hr h => ?_)
  obtain ⟨p, m, rfl, pot, m1, m9, q⟩ := h
  refine ⟨_, pss_cons (ps_set (i := 2) scNet.nd rfl (.inl rfl) (callG (E := E0) G3 hq hr (by rfl) g3 k3 b3 .nil pass0 (pa_cons (pv 0) (pa_cons (pe_op op_add pe_int (callG (E := E0) G1 hq hr (by rfl) g1 k1 b1 .nil pass0 (pa_cons (pv 0) (pa_cons (pv 1) pa_nil)))) pa_nil))))
    (pss_cons (ps_par (i := 3) (j := 4) (by rfl) scNet.nd rfl rfl (by decide) rfl rfl (pa_cons (callG (E := E0) G1 hq hr (by rfl) g1 k1 b1 .nil pass0 (pa_cons (pv 0) (pa_cons pe_int pa_nil))) (pa_cons (pe_lst pa_nil) pa_nil)) (by rfl))
    (pss_cons (ps_for PassesOwn.never rfl (pi_list (pv 2)) (pg_name (i := 5) scNet.nd rfl (.inl rfl))
      (pss_one (ps_for PassesOwn.never rfl (pi_list (pv 2)) (pg_name (i := 6) scNet.nd rfl (.inl rfl))
        (pss_one (ps_if (pt_cmpR op_eq (callG (E := E0) G1 hq hr (by rfl) g1 k1 b1 .nil pass0 (pa_cons (pv 0) (pa_cons (pe_ix ix_list (pe_lst (pa_cons pe_int (pa_cons pe_int (pa_cons pe_int (pa_cons pe_int (pa_cons pe_int pa_nil)))))) (pv 3) (fun _ _ => rfl)) pa_nil))) pe_int (nomark _))
          (pss_one (ps_expr (pe_bm PySem.F.plainAttrs_list PySem.F.slot_list_append PySem.F.type_list_append mt_append (pv 4) (pa_cons (pe_tup (pa_cons (pv 5) (pa_cons (pv 6) pa_nil))) pa_nil)))) pss_nil)))))
    (pss_cut (ps_if (pt_cmpR op_gt (pv 3) pe_int (nomark _))
      (pss_cons (ps_set (i := 7) scNet.nd rfl (.inl rfl) (callG (E := E0) G4 hq hr (by rfl) g4 k4 b4 .nil pass0 (pa_cons (pv 0) (pa_cons (pv 2) pa_nil))))
      (pss_one (ps_set (i := 4) scNet.nd rfl (.inl rfl) (pe_op op_cat (pv 4) (pe_lc (own := [("_law_one", 5), ("_law_other", 6)]) (g := gTup K 2 (gCons (gName 5) (gCons (gName 6) gNil))) (tt := tYes) (te := tTup (tCons (tVar 5) (tCons (tVar 6) tNil))) rfl scNet.nd (pi_zip (by rfl) B.zip (pa_cons (pv 7) (pa_cons (pe_op op_cat (pe_slice sl_list (pv 7) (po_some pe_int) po_none) (pe_slice sl_list (pv 7) po_none (po_some (pe_op op_sub (pv 3) pe_int)))) pa_nil))) (blkOk_by (own := [("_law_one", 5), ("_law_other", 6)]) (N := nNet) (sc := defScope sNet) (by decide +kernel))
        (fun _ _ _ _ _ => by exact pg_tup rfl (pgs_cons (pg_name (i := 5) scNet.nd rfl (Or.inl rfl)) (pgs_cons (pg_name (i := 6) scNet.nd rfl (Or.inl rfl)) pgs_nil))) (fun _ _ _ _ _ => pts_nil) (fun _ _ _ _ _ => by exact pe_tup (pa_cons (pv 5) (pa_cons (pv 6) pa_nil)))))))) pss_nil)
    (pss_one (ps_ret (pe_tup (pa_cons (pv 2) (pa_cons (callG (E := E0) G4 hq hr (by rfl) g4 k4 b4 .nil pass0 (pa_cons (pv 0) (pa_cons (pe_callB (cr_sortSP (by rfl) hr.units) (by rfl) B.sorted bSorted (pa_cons (pe_callTy (cr_setP (by rfl) hr.units) (by rfl) B.set bSet (pa_cons (pv 4) pa_nil)) pa_nil)) pa_nil))) pa_nil)))))))), ?_⟩
  refine ⟨.ref p, rfl, .ref p, rfl, .int m, rfl, p, (m : Int), rfl, by omega, Nat.lt_of_le_of_lt (Nat.log2_le_self _) (by omega), pot, fun c1 H1 a1 c2 r1 => ⟨1, c1, rfl, rfl, p, (1 + c1).toNat, ?_, r1.pot, by omega, fun ln ns HB zl hl lns nd0 hns r2 => ?_⟩⟩
  · have e : (((1 + c1).toNat : Nat) : Int) = 1 + c1 := by omega
    rw [e]; rfl
  have rB := r1.trans r2
  have potB := r2.pot
  have nln : ln ≠ p := r1.neq zl
  have n0 : 0 < ns.length := by omega
  have lm : ns.length ≤ m := by omega
  have hnc : ∀ {Hc : Hp}, Drew p HB Hc → Hc ln = some (.lst (ns.map V.str)) := fun r => r.at nln hl
  refine ⟨.ref p, rfl, p, 5, rfl, by decide, by decide +kernel, potB, fun c H2 a2 b2 r3 => ⟨by show 0 ≤ sizeLine; decide, fun lf zf => ⟨.int c, .ref lf, rfl, ?_⟩⟩⟩
  have zfB : HB lf = none := fresh_drew r3 potB zf
  have nlf : lf ≠ p := (Drew.refl potB).neq zfB
  have r4 : Drew p HB (upd H2 lf (.lst [])) := r3.new zf
  have hf4 : Dt (wo p (upd H2 lf (.lst []))) (.ref lf) (.list (([] : List Pr).map pD)) := .lst (by rw [wo_ne nlf]; exact upd_same) .nil
  generalize upd H2 lf (.lst []) = H4 at r4 hf4
  dsimp only
  show tSeq _ _ _ [some (.ref p), some (.int m), some (.ref ln), some (.int c), some (.ref lf), none, none, none] H4
  obtain ⟨bd, hbd, bd1, bd9⟩ : ∃ bd : Int, atI [V.int 3, .int 6, .int 2, .int 9, .int 9] c = some (.int bd) ∧ 1 ≤ bd ∧ bd ≤ 9 := by
    obtain ⟨j, rfl⟩ := Int.eq_ofNat_of_zero_le a2
    have hj : j = 0 ∨ j = 1 ∨ j = 2 ∨ j = 3 ∨ j = 4 := by omega
    rcases hj with rfl | rfl | rfl | rfl | rfl
    · exact ⟨3, atI_nat rfl, by omega, by omega⟩
    · exact ⟨6, atI_nat rfl, by omega, by omega⟩
    · exact ⟨2, atI_nat rfl, by omega, by omega⟩
    · exact ⟨9, atI_nat rfl, by omega, by omega⟩
    · exact ⟨9, atI_nat rfl, by omega, by omega⟩
  -- the pairs drawn
  refine q_forLn (a := ln) (xs := ns.map V.str) (ev_var rfl) (sq_of (hnc r4)) (fun i σ' H' => ∃ (y5 y6 : Option V) (fs : List Pr), σ' = [some (.ref p), some (.int m), some (.ref ln), some (.int c), some (.ref lf), y5, y6, none] ∧ Drew p HB H' ∧ Dt (wo p H') (.ref lf) (.list (fs.map pD)) ∧ (∀ q ∈ fs, q.1 ∈ ns ∧ q.2 ∈ ns) ∧ fs.length ≤ i * 9) (fun H5 e5 => ⟨none, none, [], rfl, r4.trans (Drew.of r4.pot e5), (Drew.of r4.pot e5).dt hf4, by simp, by simp⟩) (fun i σ' H' _ h => ?_) ?_ ?_
  · obtain ⟨_, _, _, _, r, _⟩ := h
    exact sq_of (hnc r)
  · rintro i v σ' H5 hi ⟨y5, y6, fs, rfl, r5, hf5, in5, l5⟩
    obtain ⟨a, _, ha, rfl⟩ := str_at hi
    show tFor _ _ _ _ [some (.ref p), some (.int m), some (.ref ln), some (.int c), some (.ref lf), some (.str a), y6, none] H5
    refine s_forLn (a := ln) (xs := ns.map V.str) (ev_var rfl) (sq_of (hnc r5)) (fun j σ' H' => ∃ (y6 : Option V) (fs : List Pr), σ' = [some (.ref p), some (.int m), some (.ref ln), some (.int c), some (.ref lf), some (.str a), y6, none] ∧ Drew p HB H' ∧ Dt (wo p H') (.ref lf) (.list (fs.map pD)) ∧ (∀ q ∈ fs, q.1 ∈ ns ∧ q.2 ∈ ns) ∧ fs.length ≤ i * 9 + j) (fun H6 e6 => ⟨y6, fs, rfl, r5.trans (Drew.of r5.pot e6), (Drew.of r5.pot e6).dt hf5, in5, l5⟩) (fun j σ' H' _ h => ?_) ?_ ?_
    · obtain ⟨_, _, _, r, _⟩ := h
      exact sq_of (hnc r)
    · rintro j v σ' H6 hj ⟨y6, fs, rfl, r6, hf6, in6, l6⟩
      obtain ⟨b, _, hb, rfl⟩ := str_at hj
      have il : i < ns.length := by
        have := (List.getElem?_eq_some_iff.mp hi).1
        rwa [List.length_map] at this
      have jl : j < ns.length := by
        have := (List.getElem?_eq_some_iff.mp hj).1
        rwa [List.length_map] at this
      show tIfS _ _ _ _ [some (.ref p), some (.int m), some (.ref ln), some (.int c), some (.ref lf), some (.str a), some (.str b), none] H6
      refine ⟨.ref p, rfl, by show 5 ≤ sizeLine; decide, fun o zo => ⟨.int c, rfl, o, _, c, .int bd, rfl, rfl, sq_of upd_same, hbd, p, bd, rfl, by omega, Nat.lt_of_le_of_lt (Nat.log2_le_self _) (by omega), (r6.new zo).pot, fun d H7 d0 d1 r7 => ⟨rfl, _, rfl, ?_⟩⟩⟩
      have r67 := (Drew.refl r6.pot).new (o := .lst [.int 3, .int 6, .int 2, .int 9, .int 9]) zo |>.trans r7
      have r67' := r6.trans r67
      have hf7 := r67.dt hf6
      dsimp only
      by_cases hc : decide (V.int d = V.int 0) = true
      rotate_left
      · rw [if_neg hc]
        exact ⟨_, fs, rfl, r67', hf7, in6, by omega⟩
      rw [if_pos hc]
      obtain ⟨_, xs, e', hx, hd⟩ := dt_lst hf7
      cases e'
      have lx := dtAll_len hd
      rw [List.length_map] at lx
      refine s_appU (xs := xs) (ys := [.str a, .str b]) (wo_some hx).2 (ev_var rfl) (eu_tup (ea_cons (ev_var rfl) (ea_cons (ev_var rfl) ea_nil)) (by show 2 ≤ 100000; decide)) (by omega) fun T H8 zT e8 hT => ?_
      have nTp : T ≠ p := r67'.neq zT
      refine ⟨_, fs ++ [(a, b)], rfl, (r67'.trans (Drew.of r67'.pot e8)).mut zfB nlf, app_pD hd (wo_some hx).2 e8 hT nTp nlf, fun q hq => ?_, by rw [List.length_append]; show fs.length + 1 ≤ _; omega⟩
      rcases List.mem_append.mp hq with h | h
      · exact in6 q h
      · rw [List.mem_singleton.mp h]
        exact ⟨ha, hb⟩
    · rintro σ' H6 ⟨y6, fs, rfl, r6, hf6, in6, l6⟩
      rw [List.length_map] at l6
      exact ⟨_, y6, fs, rfl, r6, hf6, in6, by omega⟩
  rintro σ' H5 ⟨y5, y6, fs, rfl, r5, hf5, in5, l5⟩
  rw [List.length_map] at l5
  -- a ring or a path
  refine q_cut (M := fun σ H' => ∃ (lg : Addr) (y5 y6 y7 : Option V) (fs : List Pr), σ = [some (.ref p), some (.int m), some (.ref ln), some (.int c), some (.ref lg), y5, y6, y7] ∧ HB lg = none ∧ Drew p HB H' ∧ Dt (wo p H') (.ref lg) (.list (fs.map pD)) ∧ (∀ q ∈ fs, q.1 ∈ ns ∧ q.2 ∈ ns) ∧ fs.length ≤ 200) ?_ ?_
  · refine s_when (b := decide (c > 2)) (et_test (ev_op (ev_var rfl) ev_c rv_I0)) (fun _ H6 e6 => ?_) (fun _ H6 e6 => ?_)
    rotate_left
    · exact ⟨lf, y5, y6, none, fs, rfl, zfB, r5.trans (Drew.of r5.pot e6), (Drew.of r5.pot e6).dt hf5, in5, by omega⟩
    have r6 := r5.trans (Drew.of r5.pot e6)
    have hf6 := (Drew.of r5.pot e6).dt hf5
    refine ⟨.ref p, rfl, .ref ln, rfl, p, ln, ns.map V.str, ns.map PyData.str, rfl, r6.pot, nln, hnc r6, dts_strs ns, by rw [List.length_map]; omega, fun es hes => ?_, fun lg bs H7 zg r7 hg pm => ?_⟩
    · obtain ⟨rs, rfl, h⟩ := strs_sub hes
      exact strs_shaped fun x hx => hns x (h x hx)
    obtain ⟨rs, prs', erS⟩ := drawn_strs (by rw [List.length_map]) pm
    rw [erS] at hg
    have r7' := r6.trans r7
    have hf7 := r7.dt hf6
    have lrs := prs'.length_eq
    have inr : ∀ x ∈ rs, x ∈ ns := fun x hx => prs'.mem_iff.mp hx
    dsimp only
    show tAsg _ _ _ [some (.ref p), some (.int m), some (.ref ln), some (.int c), some (.ref lf), y5, y6, some (.ref lg)] H7
    obtain ⟨t1, et1, in1, lt1⟩ := cut_strs rs (some 1) none
    obtain ⟨t2, et2, in2, lt2⟩ := cut_strs rs none (some (c - 3))
    have cut : ∀ {σ : L2.St}, σ[7]? = some (some (.ref lg)) → σ[3]? = some (some (.int c)) → EvL (tOp rCat (tSl (rSlL K) (tVar 7) (tPart (tC (.int 1))) tNoPart) (tSl (rSlL K) (tVar 7) tNoPart (tPart (tOp (rI0 fun i j => .int (i - j)) (tVar 3) (tC (.int 3)))))) σ H7 ((t1 ++ t2).map V.str) := fun {σ} h7 h3 => by
      rw [List.map_append, ← et1, ← et2]
      refine el_cat (el_sl (ev_var h7) (eo_some ev_c) eo_none (sq_of hg)) (el_sl (ev_var h7) eo_none (eo_some (ev_op (ev_var h3) ev_c rv_I0)) (sq_of hg)) ?_
      rw [et1, et2, List.length_map, List.length_map]
      omega
    have lc := evdf_lcPr (wi := iZip K (tCons (tVar 7) (tCons (tOp rCat (tSl (rSlL K) (tVar 7) (tPart (tC (.int 1))) tNoPart) (tSl (rSlL K) (tVar 7) tNoPart (tPart (tOp (rI0 fun i j => .int (i - j)) (tVar 3) (tC (.int 3)))))) tNil))) (g := gTup K 2 (gCons (gName 5) (gCons (gName 6) gNil))) (tt := tYes) (te := tTup (tCons (tVar 5) (tCons (tVar 6) tNil))) (vs := [5, 6]) (σ := [some (.ref p), some (.int m), some (.ref ln), some (.int c), some (.ref lf), y5, y6, some (.ref lg)]) (H := H7) (n := min (rs.map V.str).length ((t1 ++ t2).map V.str).length) (Y := YPair (fun i => (rs.map V.str)[i]?) (fun i => ((t1 ++ t2).map V.str)[i]?)) (fun _ => true) (fun i => ((rs.getD i "", (t1 ++ t2).getD i "") : Pr)) (by rw [List.length_map, List.length_map]; omega)
      (fun H8 e8 R r => ⟨.ref lg, rfl, cut rfl rfl H8 e8 _ fun b H9 zb e9 hb => ⟨lg, b, _, _, rfl, sq_of ((e8.trans e9) _ _ hg), sq_of hb, r H9 _ _ (walk_zip rfl) (fun H3 H4 e34 z => ⟨ex_l e34 z.1, ex_l e34 z.2⟩) e9 ⟨sq_of ((e8.trans e9) _ _ hg), sq_of hb⟩⟩⟩)
      (fun i x H8 H9 e8 hi hy => by
        obtain ⟨T, a, b, rfl, zT, rfl, hx, hy⟩ := hy
        obtain ⟨a', ea, _, rfl⟩ := str_at hx
        obtain ⟨b', eb, _, rfl⟩ := str_at hy
        rw [getD_at ea, getD_at eb]
        refine ⟨Ex.new zT, [some (.ref p), some (.int m), some (.ref ln), some (.int c), some (.ref lf), some (.str a'), some (.str b'), some (.ref lg)], rfl, fun R r => ⟨T, [.str a', .str b'], rfl, st_of upd_same, rfl, .str a', [.str b'], rfl, .str b', [], rfl, rfl, r⟩, fun H4 _ Q q => q H4 (Ex.refl H4), fun _ => ?_⟩
        exact evd_tup (evda_cons (evd_var rfl (.str _)) (evda_cons (evd_var rfl (.str _)) evda_nil)) (by show 2 ≤ 1000; decide))
    generalize hgs : ((List.range (min (rs.map V.str).length ((t1 ++ t2).map V.str).length)).filter fun _ => true).map (fun i => ((rs.getD i "", (t1 ++ t2).getD i "") : Pr)) = gs at lc
    have ingl : (∀ q ∈ gs, q.1 ∈ ns ∧ q.2 ∈ ns) ∧ gs.length ≤ 9 := by
      rw [← hgs]
      refine ⟨fun q hq => ?_, ?_⟩
      · obtain ⟨i, hi, rfl⟩ := List.mem_map.mp hq
        have hi := List.mem_range.mp (List.mem_filter.mp hi).1
        rw [List.length_map, List.length_map] at hi
        have h1 : i < rs.length := by omega
        have h2 : i < (t1 ++ t2).length := by omega
        rw [getD_at (List.getElem?_eq_getElem h1), getD_at (List.getElem?_eq_getElem h2)]
        refine ⟨inr _ (List.getElem_mem h1), ?_⟩
        rcases List.mem_append.mp (List.getElem_mem h2) with h | h
        · exact inr _ (in1 _ h)
        · exact inr _ (in2 _ h)
      · rw [List.length_map]
        refine Nat.le_trans (List.length_filter_le _ _) ?_
        rw [List.length_range, List.length_map, List.length_map]
        omega
    refine evdf_cat (evd_var rfl (dt_wo hf7)) lc.d (by rw [List.length_map, List.length_map]; omega) H7 (Ex.refl H7) _ fun l9 H9 z9 e9 hv9 => ?_
    have r9 := Drew.of r7'.pot e9
    obtain ⟨i9, j9, hp9, _⟩ := r9.pot
    rw [← List.map_append] at hv9
    refine ⟨l9, _, _, _, fs ++ gs, rfl, fresh_drew r7' potB z9, r7'.trans r9, pairs_wo hp9 hv9, fun q hq => ?_, by rw [List.length_append]; omega⟩
    rcases List.mem_append.mp hq with h | h
    · exact in5 q h
    · exact ingl.1 q h
  rintro σ H6 ⟨lg, y5', y6', y7, gs, rfl, zg, r6, hg6, in6, l6⟩
  -- each once, in an order drawn
  obtain ⟨_, xs, e', hx, hd⟩ := dt_lst hg6
  cases e'
  refine ⟨.ref ln, rfl, .ref p, rfl, .ref lg, rfl, lg, xs, gs, rfl, (wo_some hx).2, DtAll.ex (wo_ex p H6) hd, by omega, fun a M za hM ndM mM => ⟨a, M, rfl, upd_same, fun q hq => ?_, ?_, fun ys l zl hys => ?_⟩⟩
  · rw [upd_ne (ne_of_none (hM q hq) za)]
    exact hM q hq
  · have := pigeonP ndM fun q hq => (mM q).mp hq
    rw [List.length_map] at this
    omega
  have hM' : ∀ q ∈ M, (upd H6 a (PSetO P w a M)) q.1 = some (.tup [.str q.2.1, .str q.2.2]) := fun q hq => by
    rw [upd_ne (ne_of_none (hM q hq) za)]
    exact hM q hq
  have r7 := r6.new (o := PSetO P w a M) za
  have zl : (upd H6 a (PSetO P w a M)) l = none := zl
  have hys : DtAll (upd H6 a (PSetO P w a M)) ys ((srtP (M.map (·.2))).map pD) := hys
  have r8 := r7.new (o := .lst ys) zl
  have nlp : l ≠ p := r7.neq zl
  have psn : ∀ q ∈ srtP (M.map (·.2)), q.1 ∈ ns ∧ q.2 ∈ ns := fun q hq => in6 q ((mM q).mp ((srtP_perm _).mem_iff.mp hq))
  have lM : (srtP (M.map (·.2))).length ≤ 200 := by
    have := pigeonP ndM fun q hq => (mM q).mp hq
    rw [(srtP_perm _).length_eq]
    omega
  obtain ⟨i7, j7, hp7, _⟩ := r7.pot
  have hd8 : DtAll (wo p (upd (upd H6 a (PSetO P w a M)) l (.lst ys))) ys ((srtP (M.map (·.2))).map pD) := by
    have d1 : Dt (upd (upd H6 a (PSetO P w a M)) l (.lst ys)) (.ref l) (.list ((srtP (M.map (·.2))).map pD)) := .lst upd_same (DtAll.ex (Ex.new zl) hys)
    have d2 := pairs_wo (p := p) (i := i7) (j := j7) (by rw [upd_ne nlp.symm]; exact hp7) d1
    obtain ⟨_, ys', e', hx', hd'⟩ := dt_lst d2
    cases e'
    rw [wo_ne nlp, upd_same] at hx'
    cases hx'
    exact hd'
  refine ⟨p, l, ys, (srtP (M.map (fun z : PRow => z.2))).map pD, rfl, r8.pot, nlp, upd_same, hd8, by rw [List.length_map]; omega, fun es hes => ?_, fun lr bs H9 zr r9 hr9 pm => ⟨by show 2 ≤ sizeLine; decide, fun T zT => ?_⟩⟩
  · obtain ⟨qs, rfl, h⟩ := prs_sub hes
    exact prs_shaped fun q hq => ⟨hns _ (psn q (h q hq)).1, hns _ (psn q (h q hq)).2⟩
  obtain ⟨qs, pmq, dq⟩ := drawn_prs (r9.dts hd8) (by exact pm)
  have r89 := r8.trans r9
  have nrp : lr ≠ p := r8.neq zr
  have nTr : lr ≠ T := ne_of_none hr9 zT
  refine q T ln lr ns qs HB _ rB hl nln n0 lm nd0 hns (r89.new (o := .tup [.ref ln, .ref lr]) zT) (fresh_drew r8 potB zr) upd_same (.lst (by rw [wo_ne nrp, upd_ne nTr]; exact hr9) ((Drew.of r9.pot (Ex.new zT)).dts dq)) ?_ fun q hq => psn q (pmq.mem_iff.mp hq)
  exact pmq.nodup_iff.mpr ((srtP_perm _).nodup_iff.mpr ndM)
theorem ok_filled {f C CN : Addr} {fd : FuncData} {k n : Nat} (F : Fun K "_law_filled" "_law_filled" sFilled f fd) (N : NdC K mg C) (hk : 1 ≤ k) (hn1 : 1 ≤ n) (h5 : MkN P w K mg base (k - 1) C) (h6 : HasM P w K mg base (L2.CX P w) k C "record" ["self", "source", "target"] (spRecord C CN n)) : FnG P w K mg base CX0 (k + 1) f fd ["_law_rows"] (spFilled C) := by
  obtain ⟨f5, d5, M5, G5, b5⟩ := h5.ex
  obtain ⟨f6, d6, G6, b6, m6⟩ := h6.ex
  refine okG F scFilled (fun vs H Q E h => by obtain ⟨_, _, _, rfl, _⟩ := h; rfl) (fun cdv A outer s H vs Q E hq hr h => ?_)
  obtain ⟨lr, ps, U, rfl, hps, inU, nmU, lU, q⟩ := h
  have hr1 := hr.mono (j := k - 1 + 1) (by omega)
  refine ⟨_, pss_cons (ps_set (i := 1) scFilled.nd rfl (.inl rfl) (pe_make0 (E := E0) M5 G5 hr1 (by rfl) N.at_ b5 .nil pass0))
    (pss_cons (ps_for PassesOwn.never rfl (pi_list (pv 0)) (pg_tup rfl (pgs_cons (pg_name (i := 2) scFilled.nd rfl (.inl rfl)) (pgs_cons (pg_name (i := 3) scFilled.nd rfl (.inl rfl)) pgs_nil)))
      (pss_one (ps_expr (pe_meth (E := E0) (pv 1) N.cl m6 G6 hr b6 .nil passL (pa_cons (pv 2) (pa_cons (pv 3) pa_nil))))))
    (pss_one (ps_ret (pv 1)))), ?_⟩
  obtain ⟨_, xs, e', hx, hd⟩ := dt_lst hps
  cases e'
  refine fun x dx zx zdx nxd => ⟨x, dx, rfl, upd_same, fun dd H3 zdd ndx eH3 => ⟨rfl, ?_⟩⟩
  obtain ⟨A', e3, ng3⟩ : ∃ A', Ex H H3 ∧ NewG C H H3 x A' U [] := by
    have := new_of (C := C) (U := U) (H := H) (Q := fun v H' => v = .ref x → ∃ A', Ex H H' ∧ NewG C H H' x A' U []) nmU lU (fun y A' H' e' n' ey => by cases ey; exact ⟨A', e', n'⟩) zx zdx nxd zdd ndx eH3
    exact this rfl
  clear eH3
  dsimp only
  show tSeq _ _ _ [some (.ref lr), some (.ref x), none, none] H3
  refine q_forL (a := lr) (xs := xs) (ev_var rfl) (sq_of (e3 _ _ hx)) (fun j σ' H' => ∃ (y2 y3 : Option V) (g : List Row), σ' = [some (.ref lr), some (.ref x), y2, y3] ∧ Ex H H' ∧ NewG C H H' x A' U g ∧ (∀ q : Pr, q.2 ∈ tgS g q.1 ↔ q ∈ ps.take j)) (fun H4 e4 => ⟨none, none, [], rfl, e3.trans e4, ng3.ex e4, fun q => by simp [tgS, rowOf]⟩) (fun j σ' H' _ h => ?_) (fun j v σ' H4 hj h => ?_) (fun σ' H4 h => ?_)
  · obtain ⟨_, _, _, _, e, _⟩ := h
    exact sq_of (e _ _ hx)
  rotate_left
  · obtain ⟨y2, y3, g, rfl, e4, ng, hm⟩ := h
    refine ⟨.ref x, rfl, q x A' g H4 e4 ng fun q => (hm q).trans ?_⟩
    have := dtAll_len hd
    rw [List.length_map] at this
    rw [this, List.take_length]
  obtain ⟨y2, y3, g, rfl, e4, ng, hm⟩ := h
  obtain ⟨d, hd1, hd2⟩ := dtAll_at hd hj
  rw [List.getElem?_map] at hd1
  obtain ⟨q0, hq0, rfl⟩ : ∃ q0, ps[j]? = some q0 ∧ pD q0 = d := by
    cases hh : ps[j]? with
    | none => rw [hh] at hd1; cases hd1
    | some r => rw [hh] at hd1; exact ⟨r, rfl, Option.some.inj hd1⟩
  obtain ⟨T, rfl, hT⟩ := pD_refB hd2
  have i0 := inU q0 (List.mem_of_getElem? hq0)
  refine ⟨T, [.str q0.1, .str q0.2], rfl, st_of (e4 _ _ hT), rfl, .str q0.1, [.str q0.2], rfl, .str q0.2, [], rfl, rfl, ?_⟩
  show tDrop _ _ [some (.ref lr), some (.ref x), some (.str q0.1), some (.str q0.2)] H4
  refine ⟨.ref x, rfl, x, A'.dx, _, rfl, ng.nd.ob, rfl, .str q0.1, rfl, .str q0.2, rfl, ?_⟩
  dsimp only [tNil]
  refine rec_of ng.nd hn1 i0.1 i0.2 fun b7 g7 H7 bu7 nd7 hm7 hr7 => ?_
  have e7 : Ex H H7 := fun a o z => bu7 a o (fun m => by rw [List.mem_singleton.mp m, ng.zd] at z; cases z) (e4 a o z)
  refine ⟨_, _, g7, rfl, e7, ⟨nd7, ng.zx, ng.zd, fun r hr => ?_⟩, fun q' => (hm7 q').trans ?_⟩
  · rcases hr7 r hr with h | h
    · exact ng.za r h
    · exact fresh_back e4 h
  · rw [hm q', take_memB hq0]
    constructor
    · rintro (h | h)
      · exact .inr h
      · exact .inl h
    · rintro (h | h)
      · exact .inr h
      · exact .inl h
end
end Cr
/-! k24: distances to a goal -/
namespace Cr
open PySem PySem.Spec PyProof.Rows L2 Evl
abbrev sDis : Stmt := topS 21
abbrev nDis : List Str := ["_law_rows", "_law_goal", "_law_found", "_law_current", "_law_far", "_law_source", "_law_target", "_law_name"]
theorem scDis : FnScope nDis ["_law_rows", "_law_goal"] (defScope sDis) := ⟨rfl, rfl, rfl, by decide +kernel, rfl, by decide +kernel, by decide +kernel⟩
/-- a comprehension over a list of pairs -/
theorem el_lcPr {K : PySem.W.Frag} {tl te : TE} {tt : TT} {σ : L2.St} {H : Hp} {i j : Nat} {lp : Addr} {ps : List Pr} (b : Pr → Bool) (v : Pr → V) (hl : Ev tl σ H (.ref lp)) (hp : Dt H (.ref lp) (.list (ps.map pD))) (hz : ps.length ≤ 1000)
    (hw : ∀ s t : Str, wipe (((wipe σ [i, j]).set i (some (.str s))).set j (some (.str t))) [i, j] = wipe σ [i, j])
    (he : ∀ q ∈ ps, ∀ H1, Ex H H1 → EvT tt (((wipe σ [i, j]).set i (some (.str q.1))).set j (some (.str q.2))) H1 (b q) ∧ (b q = true → Ev te (((wipe σ [i, j]).set i (some (.str q.1))).set j (some (.str q.2))) H1 (v q))) :
    EvL (tLc (iList K tl) (gTup K 2 (gCons (gName i) (gCons (gName j) gNil))) tt te [i, j]) σ H ((ps.filter b).map v) := by
  obtain ⟨_, xp, e', hxp, hdp⟩ := dt_lst hp
  cases e'
  have lxp := dtAll_len hdp
  rw [List.length_map] at lxp
  have lc := el_lcW (wi := iList K tl) (g := gTup K 2 (gCons (gName i) (gCons (gName j) gNil))) (tt := tt) (te := te) (vs := [i, j]) (σ := σ) (H := H) (n := xp.length) (Y := YAt xp) (fun m => b (ps.getD m ("", ""))) (fun m => v (ps.getD m ("", ""))) (by omega)
    (fun H8 e8 R rr => hl H8 e8 _ fun H9 e9 => ⟨lp, rfl, ⟨xp, sq_of ((e8.trans e9) _ _ hxp)⟩, rr H9 _ _ (walk_list (K := K) (a := lp) (xs := xp)) (fun _ _ e z => ex_l e z) e9 (sq_of ((e8.trans e9) _ _ hxp))⟩)
    (fun m y H8 H9 e8 hm hy => by
      obtain ⟨rfl, hy⟩ := hy
      obtain ⟨d, hd1, hd2⟩ := dtAll_at hdp hy
      rw [List.getElem?_map] at hd1
      obtain ⟨q0, hq0, rfl⟩ : ∃ q0, ps[m]? = some q0 ∧ pD q0 = d := by
        cases hh : ps[m]? with
        | none => rw [hh] at hd1; cases hd1
        | some r => rw [hh] at hd1; exact ⟨r, rfl, Option.some.inj hd1⟩
      rw [getD_at hq0]
      obtain ⟨T0, rfl, hT0⟩ := pD_refB hd2
      obtain ⟨h1, h2⟩ := he q0 (List.mem_of_getElem? hq0) H9 e8
      exact ⟨Ex.refl _, _, hw q0.1 q0.2, fun R r => ⟨T0, [.str q0.1, .str q0.2], rfl, st_of (e8 _ _ hT0), rfl, .str q0.1, [.str q0.2], rfl, .str q0.2, [], rfl, rfl, r⟩, h1, h2⟩)
  rw [lxp, given_fm ps ("", "") b v] at lc
  exact lc
/-! ### a dict of distances -/
def kF (e : Str × Nat) : Key × V := (.inr e.1, .int (e.2 : Int))
theorem kF_any (F : List (Str × Nat)) (n : Str) : ((F.map kF).any fun kv => decide (kv.1 = Sum.inr n)) = decide (n ∈ F.map (·.1)) := by
  rw [List.any_map, Bool.eq_iff_iff, List.any_eq_true, decide_eq_true_eq, List.mem_map]
  constructor
  · rintro ⟨e, h1, h2⟩
    exact ⟨e, h1, Sum.inr.inj (of_decide_eq_true h2)⟩
  · rintro ⟨e, h1, h2⟩
    exact ⟨e, h1, decide_eq_true (by show (Sum.inr e.1 : Key) = _; rw [h2])⟩
theorem kF_put {F : List (Str × Nat)} {n : Str} {k : Nat} (h : n ∉ F.map (·.1)) : putK (F.map kF) (.inr n) (.int (k : Int)) = (F ++ [(n, k)]).map kF := by
  unfold putK
  rw [kF_any, decide_eq_false h, if_neg Bool.false_ne_true, List.map_append]
  rfl
theorem kF_val : ∀ (F : List (Str × Nat)) (n : Str), valV (F.map kF) (.inr n) = (farOf F n).map fun k => V.int (k : Int)
  | [], n => rfl
  | e :: r, n => by
    unfold farOf
    rw [List.map_cons, List.find?_cons]
    by_cases h : e.1 = n
    · rw [valV_pos (by show (Sum.inr e.1 : Key) = _; rw [h]), decide_eq_true h]
      rfl
    · rw [valV_neg (fun z => h (Sum.inr.inj z)), decide_eq_false h]
      exact kF_val r n
theorem kF_some (F : List (Str × Nat)) (n : Str) : (valV (F.map kF) (.inr n)).isSome = decide (n ∈ F.map (·.1)) := by rw [← valV_any, kF_any]
theorem et_dno {ty td : TE} {σ : L2.St} {H : Hp} {a : Addr} {kvs : List (Key × V)} {x : Str} (hy : Ev ty σ H (.str x)) (hd : Ev td σ H (.ref a)) (h : H a = some (.dK kvs)) : EvT (tTest (tDNotIn ty td)) σ H (!(valV kvs (.inr x)).isSome) := et_test fun H1 e Q q =>
  hy H1 e _ fun H2 e2 => hd H2 (e.trans e2) _ fun H3 e3 => ⟨a, _, rfl, DGet.k (k := .inr x) (((e.trans e2).trans e3) _ _ h), q H3 (e2.trans e3)⟩
def spDis : Sp := fun vs H Q _ => ∃ (lr : Addr) (goal : Str) (ps : List Pr) (U : List Str), vs = [.ref lr, .str goal] ∧ Dt H (.ref lr) (.list (ps.map pD)) ∧ ps.Nodup ∧ ps.length ≤ 1000 ∧ (∀ q ∈ ps, q.1 ∈ U) ∧ goal ∈ U ∧ U.length ≤ 10 ∧ (∀ n ∈ U, isNameS n = true) ∧
  ∀ (d : Addr) (F : List (Str × Nat)) (k : Nat) (H' : Hp), H d = none → Ex H H' → H' d = some (.dK (F.map kF)) → Lev (tgP ps) goal k F [] → k ≤ 12 → Q (.ref d) H'
theorem two_parts {U : List Str} (p : Str → Bool) : (U.filter p).length + (U.filter fun x => !p x).length = U.length := by
  induction U with
  | nil => rfl
  | cons a r ih =>
    rw [List.filter_cons, List.filter_cons]
    cases p a <;> simp <;> omega
theorem prod_few : ∀ a ≤ 10, ∀ b ≤ 10, a + b ≤ 10 → a * b ≤ 25 := by decide
/-- sorted(set(names)) -/
theorem q_sortset {P : Program} {w : World} {te : TE} {σ : L2.St} {H : Hp} {ks : List Str} {i : Nat} {tz : TS} {D : Ends} (h : EvL te σ H (ks.map V.str)) (few : ks.length ≤ 60)
    (k : ∀ (ss : List Str) (p : Addr) (H1 : Hp), ss.Nodup → (∀ n, n ∈ ss ↔ n ∈ ks) → H p = none → Ex H H1 → H1 p = some (.lst (ss.map V.str)) → tz D (σ.set i (some (.ref p))) H1) : tSeq (tAsg (tCB (rSortT P w) (tCons (tCB (rSetT P w) (tCons te tNil)) tNil)) (gName i)) tz D σ H :=
  h H (Ex.refl H) _ fun l4 H4 z4 e4 h4 => ⟨l4, ks, rfl, h4, by omega, fun S L5 z5 ll5 m5 => ⟨S, L5, rfl, upd_same, by omega, fun ss p nds so m6 z6 =>
    k ss p _ nds (fun n => (m6 n).trans (m5 n)) (fresh_back (e4.trans (Ex.new z5)) z6) ((e4.trans (Ex.new z5)).trans (Ex.new z6)) upd_same⟩⟩
section
variable {P : Program} {w : World} {K : PySem.W.Frag} {mg : Str → Option Value} {base : Heap}
theorem ok_dis {f : Addr} {fd : FuncData} {k : Nat} (F : Fun K "_law_distances" "_law_distances" sDis f fd) (B : Blt mg) : FnG P w K mg base CX0 (k + 1) f fd ["_law_rows", "_law_goal"] spDis := by
  refine okG F scDis (fun vs H Q E h => by obtain ⟨_, _, _, _, rfl, _⟩ := h; rfl) (fun cdv A outer s H vs Q E hq hr h => ?_)
  obtain ⟨lr, goal, ps, U, rfl, hps, dis, few, inU, gU, l10, nmU, q⟩ := h
  have hu : (A.deeper (envOfC "_law_distances" (defScope sDis) s.heap.objs.size f cdv)).units + 1 < cLine := by have := hr.units; omega
  refine ⟨_, pss_cons (ps_asg (pe_tup (pa_cons (pe_disp (pps_cons (pv 1) pe_int pps_nil) rfl rfl (by simp) (by decide)) (pa_cons (pe_lst (pa_cons (pv 1) pa_nil)) (pa_cons pe_int pa_nil)))) (pg_tup rfl (pgs_cons (pg_name (i := 2) scDis.nd rfl (.inr rfl)) (pgs_cons (pg_name (i := 3) scDis.nd rfl (.inr rfl)) (pgs_cons (pg_name (i := 4) scDis.nd rfl (.inl rfl)) pgs_nil)))))
    (pss_cut (ps_while PassesOwn.never (pt_cmpR (op_neDt hr.units) (pv 3) (pe_lst pa_nil) (nomark _))
      (pss_cons (ps_set (i := 4) scDis.nd rfl (.inl rfl) (pe_op op_add (pv 4) pe_int))
      (pss_cons (ps_set (i := 3) scDis.nd rfl (.inr rfl) (pe_callB (cr_sortT (by rfl)) (by rfl) B.sorted bSorted (pa_cons (pe_callTy (cr_setT (by rfl)) (by rfl) B.set bSet (pa_cons (pe_lc (own := [("_law_source", 5), ("_law_target", 6)]) (g := gTup K 2 (gCons (gName 5) (gCons (gName 6) gNil))) (tt := tAnd (tTest (tOp (rIn K false) (tVar 6) (tVar 3))) (tTest (tDNotIn (tVar 5) (tVar 2)))) (te := tVar 5) rfl scDis.nd (pi_list (pv 0)) (blkOk_by (own := [("_law_source", 5), ("_law_target", 6)]) (N := nDis) (sc := defScope sDis) (by decide +kernel))
          (fun _ _ _ _ _ => by exact pg_tup rfl (pgs_cons (pg_name (i := 5) scDis.nd rfl (Or.inl rfl)) (pgs_cons (pg_name (i := 6) scDis.nd rfl (Or.inl rfl)) pgs_nil))) (fun _ _ _ _ _ => by exact pts_one (PW.pt (pw_and (pt_cmpR op_in_seq (pv 6) (pv 3) (by rfl)) (pw_and1 (pt_cmp (pc_dnotin hu (pv 5) (pv 2))))))) (fun _ _ _ _ _ => pv 5)) pa_nil)) pa_nil)))
      (pss_one (ps_for PassesOwn.never rfl (pi_list (pv 3)) (pg_name (i := 7) scDis.nd rfl (.inl rfl))
        (pss_one (ps_dput hu (pv 2) (pv 7) (pv 4) rfl)))))))
    (pss_one (ps_ret (pv 2)))), ?_⟩
  refine fun fd zf => ⟨.str goal, rfl, upd_same, [(.inr goal, .int 0)], rfl, by show 1 ≤ 15; decide, ?_⟩
  refine ⟨.str goal, rfl, by show 1 ≤ sizeLine; decide, fun cl zc => ?_⟩
  refine ⟨by show 3 ≤ sizeLine; decide, fun T3 zT => ⟨T3, [.ref fd, .ref cl, .int 0], rfl, st_of upd_same, rfl, .ref fd, [.ref cl, .int 0], rfl, .ref cl, [.int 0], rfl, .int 0, [], rfl, rfl, ?_⟩⟩
  have start : Ex H (upd (upd (upd (upd H fd (.dK [])) fd (.dK [(.inr goal, .int 0)])) cl (.lst [.str goal])) T3 (.tup [.ref fd, .ref cl, .int 0])) := ((Ex.mut (Ex.new zf) zf).trans (Ex.new zc)).trans (Ex.new zT)
  have hf0 : (upd (upd (upd (upd H fd (.dK [])) fd (.dK [(.inr goal, .int 0)])) cl (.lst [.str goal])) T3 (.tup [.ref fd, .ref cl, .int 0])) fd = some (.dK (([(goal, 0)] : List (Str × Nat)).map kF)) := Ex.new zT _ _ (Ex.new zc _ _ upd_same)
  have hc0 : (upd (upd (upd (upd H fd (.dK [])) fd (.dK [(.inr goal, .int 0)])) cl (.lst [.str goal])) T3 (.tup [.ref fd, .ref cl, .int 0])) cl = some (.lst (([goal] : List Str).map V.str)) := Ex.new zT _ _ upd_same
  show tCut _ _ _ [some (.ref lr), some (.str goal), some (.ref fd), some (.ref cl), some (.int 0), none, none, none] (upd (upd (upd (upd H fd (.dK [])) fd (.dK [(.inr goal, .int 0)])) cl (.lst [.str goal])) T3 (.tup [.ref fd, .ref cl, .int 0]))
  generalize (upd (upd (upd (upd H fd (.dK [])) fd (.dK [(.inr goal, .int 0)])) cl (.lst [.str goal])) T3 (.tup [.ref fd, .ref cl, .int 0])) = H0 at start hf0 hc0
  refine q_cut (M := fun σ H' => ∃ (cl : Addr) (k : Nat) (F : List (Str × Nat)) (y7 : Option V), σ = [some (.ref lr), some (.str goal), some (.ref fd), some (.ref cl), some (.int (k : Int)), none, none, y7] ∧ Ex H H' ∧ H' fd = some (.dK (F.map kF)) ∧ Lev (tgP ps) goal k F [] ∧ k ≤ 12) ?_ ?_
  rotate_left
  · rintro σ H' ⟨cl, k, F, y7, rfl, e, hf, L, hk⟩
    exact ⟨.ref fd, rfl, q fd F k H' zf e hf L hk⟩
  refine s_while (fun m σ H' => ∃ (cl : Addr) (k : Nat) (F : List (Str × Nat)) (cur : List Str) (y7 : Option V), σ = [some (.ref lr), some (.str goal), some (.ref fd), some (.ref cl), some (.int (k : Int)), none, none, y7] ∧ Ex H H' ∧ H' fd = some (.dK (F.map kF)) ∧ H' cl = some (.lst (cur.map V.str)) ∧ Lev (tgP ps) goal k F cur ∧ (∀ n ∈ F.map (·.1), n ∈ U) ∧ k ≤ F.length ∧ (cur ≠ [] → k + 1 ≤ F.length) ∧ m = 2 * (64 - F.length) + (if cur = [] then 0 else 1)) (2 * 63 + 1) ⟨cl, 0, [(goal, 0)], [goal], none, rfl, start, hf0, hc0, lev0 _ _, fun n hn => by rw [List.mem_singleton.mp hn]; exact gU, Nat.zero_le _, fun _ => Nat.le_refl _, by rw [if_neg (List.cons_ne_nil _ _)]; rfl⟩ ?_
  rintro m σ H1 ⟨cl1, k1, F1, cur, y7, rfl, e1, hf1, hc1, L, kU, kl, kl2, rfl⟩
  have lenF : F1.length ≤ 10 := by
    have := nodup_len L.nd kU
    rw [List.length_map] at this
    omega
  have curK : ∀ n ∈ cur, n ∈ F1.map (·.1) := fun n hn => List.mem_map.mpr ⟨(n, k1), (L.low n).mp hn, rfl⟩
  have tst : EvT (tTest (tOp rNeDt (tVar 3) (tLst tNil))) [some (.ref lr), some (.str goal), some (.ref fd), some (.ref cl1), some (.int (k1 : Int)), none, none, y7] H1 (!decide (cur = [])) := by
    refine et_is (et_neD (evd_var rfl (.lst hc1 (dts_strs cur))) (evd_lst evda_nil (by show 0 ≤ 1000; decide)) (strs_shaped fun n hn => nmU n (kU n (curK n hn))) (by decide +kernel)) ?_
    cases cur with
    | nil => simp [PyData.eqv, PyData.eqvAll]
    | cons o r => simp [PyData.eqv, PyData.eqvAll]
  refine ⟨_, tst, fun hb H2 e2 => ?_, fun hb H2 e2 => ?_⟩
  rotate_left
  · rw [Bool.not_eq_false', decide_eq_true_eq] at hb
    rw [hb] at L
    exact ⟨cl1, k1, F1, y7, rfl, e1.trans e2, e2 _ _ hf1, L, by omega⟩
  rw [Bool.not_eq_true', decide_eq_false_iff_not] at hb
  have kl3 := kl2 hb
  refine ⟨fun σ' H' => ∃ (cl : Addr) (F : List (Str × Nat)) (cur : List Str) (y7 : Option V), σ' = [some (.ref lr), some (.str goal), some (.ref fd), some (.ref cl), some (.int ((k1 + 1 : Nat) : Int)), none, none, y7] ∧ Ex H H' ∧ H' fd = some (.dK (F.map kF)) ∧ H' cl = some (.lst (cur.map V.str)) ∧ Lev (tgP ps) goal (k1 + 1) F cur ∧ (∀ n ∈ F.map (·.1), n ∈ U) ∧ F.length = F1.length + cur.length, fun σ2 H3 ⟨cl, F, cur', y7, h1, h2, h3, h4, h5, h6, h7⟩ => ⟨2 * (64 - F.length) + (if cur' = [] then 0 else 1), ?_, cl, k1 + 1, F, cur', y7, h1, h2, h3, h4, h5, h6, by omega, fun hne => ?_, rfl⟩, ?_⟩
  · rw [if_neg hb]
    by_cases hc' : cur' = []
    · rw [if_pos hc']; omega
    · have := List.length_pos_iff.mpr hc'
      rw [if_neg hc']; omega
  · have := List.length_pos_iff.mpr hne
    omega
  refine q_asg (ev_is (ev_op (ev_var rfl) ev_c rv_I0) (show V.int ((k1 : Int) + 1) = V.int ((k1 + 1 : Nat) : Int) from rfl)) fun H3 e3 => ?_
  have e13 := e1.trans (e2.trans e3)
  have hf3 := e3 _ _ (e2 _ _ hf1)
  have hc3 := e3 _ _ (e2 _ _ hc1)
  show tSeq _ _ _ [some (.ref lr), some (.str goal), some (.ref fd), some (.ref cl1), some (.int ((k1 + 1 : Nat) : Int)), none, none, y7] H3
  have lc := el_lcPr (K := K) (tl := tVar 0) (tt := tAnd (tTest (tOp (rIn K false) (tVar 6) (tVar 3))) (tTest (tDNotIn (tVar 5) (tVar 2)))) (te := tVar 5) (σ := [some (.ref lr), some (.str goal), some (.ref fd), some (.ref cl1), some (.int ((k1 + 1 : Nat) : Int)), none, none, y7]) (H := H3) (i := 5) (j := 6) (lp := lr) (ps := ps) (fun q : Pr => decide (q.2 ∈ cur) && !decide (q.1 ∈ F1.map (·.1))) (fun q => V.str q.1) (ev_var rfl) (Dt.ex e13 hps) few (fun _ _ => rfl)
    (fun q hq H4 e4 => ⟨et_and (et_is (et_test (ev_op (ev_var rfl) (ev_var rfl) (rv_isL (sq_of (e4 _ _ hc3)) rfl (flat_strs _)))) ((Bool.eq_iff_iff).mpr (inV_mem.trans (decide_eq_true_iff (p := q.2 ∈ cur)).symm))) fun _ => et_is (et_dno (ev_var rfl) (ev_var rfl) (e4 _ _ hf3)) (congrArg _ (kF_some F1 q.1)), fun _ => ev_var rfl⟩)
  have eks : (ps.filter fun q : Pr => decide (q.2 ∈ cur) && !decide (q.1 ∈ F1.map (·.1))).map (fun q : Pr => V.str q.1) = ((ps.filter fun q : Pr => decide (q.2 ∈ cur) && !decide (q.1 ∈ F1.map (·.1))).map (·.1)).map V.str := by rw [List.map_map]; rfl
  rw [eks] at lc
  have lfew : ((ps.filter fun q : Pr => decide (q.2 ∈ cur) && !decide (q.1 ∈ F1.map (·.1))).map (·.1)).length ≤ 25 := by
    rw [List.length_map]
    have nc : cur.Nodup := L.curNd
    have z := pigeonP (l := ps.filter fun q : Pr => decide (q.2 ∈ cur) && !decide (q.1 ∈ F1.map (·.1))) (k := (U.filter fun n => !decide (n ∈ F1.map (·.1))).flatMap fun s => cur.map fun t => ((s, t) : Pr)) (List.Nodup.sublist List.filter_sublist dis) fun q hq => by
      obtain ⟨h1, h2⟩ := List.mem_filter.mp hq
      rw [Bool.and_eq_true, decide_eq_true_eq] at h2
      exact List.mem_flatMap.mpr ⟨q.1, List.mem_filter.mpr ⟨inU q h1, h2.2⟩, List.mem_map.mpr ⟨q.2, h2.1, rfl⟩⟩
    have e : ∀ l : List Str, (l.flatMap fun a => cur.map fun b => ((a, b) : Pr)).length = l.length * cur.length := by
      intro l
      induction l with
      | nil => simp
      | cons a r ih => rw [List.flatMap_cons, List.length_append, ih, List.length_map, List.length_cons, Nat.succ_mul, Nat.add_comm]
    rw [e] at z
    have tp := two_parts (U := U) fun n => decide (n ∈ F1.map (·.1))
    have cl := nodup_len (us := U.filter fun n => decide (n ∈ F1.map (·.1))) nc fun n hn => List.mem_filter.mpr ⟨kU n (curK n hn), decide_eq_true (curK n hn)⟩
    exact Nat.le_trans z (prod_few _ (by omega) _ (by omega) (by omega))
  generalize hks : (ps.filter fun q : Pr => decide (q.2 ∈ cur) && !decide (q.1 ∈ F1.map (·.1))).map (·.1) = ks at lc lfew
  have mks : ∀ n, n ∈ ks ↔ ((∃ t ∈ tgP ps n, t ∈ cur) ∧ n ∉ F1.map (·.1)) := by
    intro n
    rw [← hks, List.mem_map]
    constructor
    · rintro ⟨q, h1, rfl⟩
      obtain ⟨h1, h2⟩ := List.mem_filter.mp h1
      rw [Bool.and_eq_true, decide_eq_true_eq, Bool.not_eq_true', decide_eq_false_iff_not] at h2
      exact ⟨⟨q.2, mem_tgP.mpr h1, h2.1⟩, h2.2⟩
    · rintro ⟨⟨t, h1, h2⟩, h3⟩
      refine ⟨(n, t), List.mem_filter.mpr ⟨mem_tgP.mp h1, ?_⟩, rfl⟩
      rw [Bool.and_eq_true, decide_eq_true_eq, Bool.not_eq_true', decide_eq_false_iff_not]
      exact ⟨h2, h3⟩
  refine q_sortset lc (by omega) fun ss cl6 H6 nds m6 z6 e36 h6 => ?_
  have mss : ∀ n, n ∈ ss ↔ ((∃ t ∈ tgP ps n, t ∈ cur) ∧ n ∉ F1.map (·.1)) := fun n => (m6 n).trans (mks n)
  have L6 := L.next nds mss
  show tFor _ _ _ _ [some (.ref lr), some (.str goal), some (.ref fd), some (.ref cl6), some (.int ((k1 + 1 : Nat) : Int)), none, none, y7] H6
  have e16 := e13.trans e36
  refine s_forLn (a := cl6) (xs := ss.map V.str) (ev_var rfl) (sq_of h6) (fun i σ' H' => ∃ (y7 : Option V), σ' = [some (.ref lr), some (.str goal), some (.ref fd), some (.ref cl6), some (.int ((k1 + 1 : Nat) : Int)), none, none, y7] ∧ Ex H H' ∧ H' fd = some (.dK ((F1 ++ (ss.take i).map fun n => (n, k1 + 1)).map kF)) ∧ H' cl6 = some (.lst (ss.map V.str))) (fun H7 e7 => ⟨y7, rfl, e16.trans e7, by rw [List.take_zero, List.map_nil, List.append_nil]; exact e7 _ _ (e36 _ _ hf3), e7 _ _ h6⟩) (fun i σ' H' _ h => ?_) ?_ ?_
  · obtain ⟨_, _, _, _, h⟩ := h
    exact sq_of h
  · rintro i v σ' H7 hi ⟨y7, rfl, e7, hf7, h7⟩
    obtain ⟨n, hn, hns, rfl⟩ := str_atB hi
    have nk : n ∉ (F1 ++ (ss.take i).map fun n => (n, k1 + 1)).map (·.1) := by
      rw [List.map_append, List.map_map, List.mem_append, not_or]
      refine ⟨((mss n).mp hns).2, fun z => ?_⟩
      obtain ⟨x, hx, ex⟩ := List.mem_map.mp z
      have ex : x = n := ex
      rw [ex] at hx
      obtain ⟨j, hj, ej⟩ := List.mem_iff_getElem.mp hx
      rw [List.getElem_take] at ej
      rw [List.length_take] at hj
      have il : i < ss.length := (List.getElem?_eq_some_iff.mp hn).1
      have en : ss[i] = n := (List.getElem?_eq_some_iff.mp hn).2
      have := (List.getElem_inj nds).mp (ej.trans en.symm)
      omega
    have il : i < ss.length := (List.getElem?_eq_some_iff.mp hn).1
    have ssl : ss.length ≤ 25 := Nat.le_trans (nodup_len nds fun n hn => (m6 n).mp hn) lfew
    refine ⟨.int ((k1 + 1 : Nat) : Int), rfl, .ref fd, rfl, .str n, rfl, fd, _, rfl, DPut.k (k := Sum.inr n) hf7 ?_, ?_⟩
    · rw [List.length_map, List.length_append, List.length_map, List.length_take, sizeLine_eq]
      omega
    rw [kF_put nk]
    have nfc : fd ≠ cl6 := fun e => by rw [e, h7] at hf7; cases hf7
    refine ⟨_, rfl, Ex.mut e7 zf, ?_, by rw [upd_ne nfc.symm]; exact h7⟩
    have e : (ss.take (i + 1)).map (fun n => (n, k1 + 1)) = (ss.take i).map (fun n => (n, k1 + 1)) ++ [(n, k1 + 1)] := by
      rw [List.take_add_one, hn, List.map_append]
      rfl
    rw [upd_same, e, ← List.append_assoc]
  · rintro σ' H7 ⟨y7, rfl, e7, hf7, h7⟩
    rw [List.length_map, List.take_length] at hf7
    refine ⟨cl6, _, ss, y7, rfl, e7, hf7, h7, L6, fun n hn => ?_, by rw [List.length_append, List.length_map]⟩
    rw [List.map_append, List.mem_append] at hn
    rcases hn with hn | hn
    · exact kU n hn
    · rw [List.map_map] at hn
      obtain ⟨x, hx, ex⟩ := List.mem_map.mp hn
      have ex : x = n := ex
      rw [← ex]
      obtain ⟨⟨t, h1, _⟩, _⟩ := (mss x).mp hx
      exact inU _ (mem_tgP.mp h1)
end
end Cr
/-! zip of two lists walked by one name: the pair given out before is held, or gone -/
namespace Cr
open PySem PySem.Spec PyProof.Rows L2 Evl
/-- a zip object, whatever its first two parts -/
abbrev ZO (h : Heap) (z TI TO : Addr) (u : Value) (f : Bool) : Prop := h.get? z = some { cls := .type "zip", dict := none, data := .fields #[u, .bool f, .bool false, .ref TI, .ref TO], slots := #[] }
section
variable {prog : Program} {w : World} {A : Around} {E : Value → Shared → Prop} {s : Shared}
theorem free_gone {z TI TO T : Addr} {f : Bool} {Q : Bool → Shared → Prop} (hz : ZO s.heap z TI TO (rawInt T) f) (hT : s.heap.get? T = none) (h : Q true s) : wpAny (model prog w) A (Builtin.SmallTypes.ownedTupleIsFree (.ref z)) Q E s := by
  unfold Builtin.SmallTypes.ownedTupleIsFree
  refine wpAny_bind (wpAny_field hz rfl (x := rawInt T) rfl ?_)
  show wpAny _ _ (loadIfAlive ((T : Int).toNat) >>= _) _ _ _
  rw [Int.toNat_natCast]
  refine wpAny_bind ?_
  have go : ∀ {Q' : Option Obj → Shared → Prop}, Q' none s → wpAny (model prog w) A (loadIfAlive T) Q' E s := fun {Q'} q => by
    have q' : Q' (s.heap.get? T) s := by rw [hT]; exact q
    exact fun _ _ _ => q'
  refine go ?_
  simp only [Option.isNone_none, if_true]
  exact wpAny_pure h
variable {z TI TO i1 i2 l1 l2 : Addr} {k1 k2 : Nat} {xs ys : Array Value}
/-- a pair drawn where the one before is gone -/
theorem gone_item {T : Addr} {f : Bool} {x y a b : Value} {Q : Value → Shared → Prop} (D : ZipApart z TI TO i1 i2 l1 l2) (hz : ZO s.heap z TI TO (rawInt T) f) (hT : s.heap.get? T = none) (hI : IsPair s.heap TI (.ref i1) (.ref i2)) (hO : IsPair s.heap TO a b)
    (g1 : s.heap.IsListIter i1 l1 k1) (g2 : s.heap.IsListIter i2 l2 k2) (m1 : s.heap.IsList l1 xs) (m2 : s.heap.IsList l2 ys) (e1 : xs[k1]? = some x) (e2 : ys[k2]? = some y)
    (k : ∀ h', ZO h' z TI TO (rawInt s.heap.objs.size) false → IsPair h' TO x y → h'.IsListIter i1 l1 (k1 + 1) → h'.IsListIter i2 l2 (k2 + 1) → IsPair h' s.heap.objs.size x y →
      (∀ c o, c ≠ z → c ≠ TO → c ≠ i1 → c ≠ i2 → s.heap.get? c = some o → h'.get? c = some o) → Q (.ref s.heap.objs.size) { s with heap := h' }) : wpAny (model prog w) A (Builtin.«zip.__next__» ⟨[.ref z], []⟩) (fun fin s' => ∃ v, fin = .done (.ret v) ∧ Q v s') E s := by
  show wpAny _ _ (field (.ref z) 2 >>= _) _ _ _
  refine wpAny_bind (wpAny_field hz rfl (x := .bool false) rfl (show wpAny _ _ (field (.ref z) 3 >>= _) _ _ _ from ?_))
  refine wpAny_bind (wpAny_field hz rfl (x := .ref TI) rfl (wpAny_bind (wpAny_seqItems hI rfl (show wpAny _ _ (Builtin.SmallTypes.ownedTupleIsFree (.ref z) >>= _) _ _ _ from ?_))))
  refine wpAny_bind (free_gone hz hT ?_)
  simp only [if_true]
  refine wpAny_bind (wpAny_rule (wpAny_bind (wpAny_field hz rfl (x := .ref TO) rfl (wpAny_bind (wpAny_setField_rec hz (by simp) fun n1 q1 b1 => wpAny_bind ?_)))))
  replace q1 : ZO n1 z TI TO .ellipsis f := q1
  simp only [List.zipIdx_cons, List.zipIdx_nil, List.forIn_cons, List.forIn_nil]
  refine wpAny_bind (wpAny_bind (wpAny_onRaise (show wpAny _ _ (Builtin.SmallTypes.nextOf (.ref i1) >>= _) _ _ _ from ?_)))
  refine wpAny_bind (wpAny_nextOf_list_item (g1.extBut b1.extBut D.i1z) (m1.extBut b1.extBut D.l1z) e1 fun n2 q2 b2 => wpAny_pure ?_)
  have o2 : IsPair n2 TO a b := b2.extBut _ _ D.TOi1 (b1.extBut _ _ D.TOz hO)
  refine wpAny_bind (wpAny_seqItems o2 rfl (wpAny_bind (wpAny_updateSeq_pair o2 fun n3 o3 b3 => wpAny_bind (wpAny_letGo (wpAny_pure ?_)))))
  replace o3 : IsPair n3 TO x b := o3
  refine wpAny_bind (wpAny_bind (wpAny_onRaise (show wpAny _ _ (Builtin.SmallTypes.nextOf (.ref i2) >>= _) _ _ _ from ?_)))
  have g2' := ((g2.extBut b1.extBut D.i2z).extBut b2.extBut D.i12.symm).extBut b3.extBut D.TOi2.symm
  have m2' := ((m2.extBut b1.extBut D.l2z).extBut b2.extBut D.l2i1).extBut b3.extBut D.l2TO
  refine wpAny_bind (wpAny_nextOf_list_item g2' m2' e2 fun n4 q4 b4 => wpAny_pure ?_)
  have o4 : IsPair n4 TO x b := b4.extBut _ _ D.TOi2 o3
  refine wpAny_bind (wpAny_seqItems o4 rfl (wpAny_bind (wpAny_updateSeq_pair o4 fun n5 o5 b5 => wpAny_bind (wpAny_letGo (wpAny_pure (wpAny_pure ?_))))))
  replace o5 : IsPair n5 TO x y := o5
  refine wpAny_bind (wpAny_seqItems o5 rfl (wpAny_bind (wpAny_newTuple ?_)))
  have sz : n5.objs.size = s.heap.objs.size := by rw [b5.1, b4.1, b3.1, b2.1, b1.1]
  have q5 : ZO n5 z TI TO .ellipsis f := b5.extBut _ _ D.TOz.symm (b4.extBut _ _ D.i2z.symm (b3.extBut _ _ D.TOz.symm (b2.extBut _ _ D.i1z.symm q1)))
  have r5 : ∀ c o, c ≠ z → c ≠ TO → c ≠ i1 → c ≠ i2 → s.heap.get? c = some o → n5.get? c = some o := fun c o c1 c2 c3 c4 e => b5.extBut _ _ c2 (b4.extBut _ _ c4 (b3.extBut _ _ c2 (b2.extBut _ _ c3 (b1.extBut _ _ c1 e))))
  have p1 : n5.IsListIter i1 l1 (k1 + 1) := ((q2.extBut b3.extBut D.TOi1.symm).extBut b4.extBut D.i12).extBut b5.extBut D.TOi1.symm
  have p2 : n5.IsListIter i2 l2 (k2 + 1) := q4.extBut b5.extBut D.TOi2.symm
  have zl : z < n5.objs.size := Heap.lt_size q5
  show wpAny _ _ (Builtin.SmallTypes.ownedTupleHandOut (.ref z) (.ref n5.objs.size) >>= _) _ _ _
  refine wpAny_bind ?_
  unfold Builtin.SmallTypes.ownedTupleHandOut
  have q6 : ZO (n5.push { cls := .type "tuple", data := .seq #[x, y] }) z TI TO .ellipsis f := Heap.get?_push_of_some _ q5
  refine wpAny_bind (wpAny_setField_rec q6 (by simp) fun n7 q7 b7 => ?_)
  replace q7 : ZO n7 z TI TO (rawInt n5.objs.size) f := q7
  refine wpAny_setField_rec q7 (by simp) fun n8 q8 b8 => ?_
  replace q8 : ZO n8 z TI TO (rawInt n5.objs.size) false := q8
  have up : ∀ c o, c ≠ z → n5.get? c = some o → n8.get? c = some o := fun c o c1 e => b8.extBut _ _ c1 (b7.extBut _ _ c1 (Heap.get?_push_of_some _ e))
  have t8 : IsPair n8 n5.objs.size x y := b8.extBut _ _ (Nat.ne_of_gt zl) (b7.extBut _ _ (Nat.ne_of_gt zl) (Heap.get?_push_size _ rfl))
  rw [sz] at q8 t8
  refine wpAny_pure ⟨_, rfl, (show Q (.ref n5.objs.size) _ from ?_)⟩
  rw [sz]
  exact k n8 q8 (up _ _ D.TOz o5) (p1.at fun o e => up _ o D.i1z e) (p2.at fun o e => up _ o D.i2z e) t8 fun c o c1 c2 c3 c4 e => up c o c1 (r5 c o c1 c2 c3 c4 e)
theorem gone_end {T : Addr} {f : Bool} {a b : Value} {Q : Fin → Shared → Prop} (hh : A.handled = none) (D : ZipApart z TI TO i1 i2 l1 l2) (hz : ZO s.heap z TI TO (rawInt T) f) (hT : s.heap.get? T = none) (hI : IsPair s.heap TI (.ref i1) (.ref i2)) (hO : IsPair s.heap TO a b)
    (g1 : s.heap.IsListIter i1 l1 k1) (g2 : s.heap.IsListIter i2 l2 k2) (m1 : s.heap.IsList l1 xs) (m2 : s.heap.IsList l2 ys) (he : xs[k1]? = none ∨ ys[k2]? = none)
    (k : ∀ h' e, (∀ c o, c ≠ z → c ≠ TO → c ≠ i1 → c ≠ i2 → s.heap.get? c = some o → h'.get? c = some o) → (∃ o, h'.get? e = some o ∧ o.cls = .type "StopIteration") → E (.ref e) { s with heap := h' }) : wpAny (model prog w) A (Builtin.«zip.__next__» ⟨[.ref z], []⟩) Q E s := by
  show wpAny _ _ (field (.ref z) 2 >>= _) _ _ _
  refine wpAny_bind (wpAny_field hz rfl (x := .bool false) rfl (show wpAny _ _ (field (.ref z) 3 >>= _) _ _ _ from ?_))
  refine wpAny_bind (wpAny_field hz rfl (x := .ref TI) rfl (wpAny_bind (wpAny_seqItems hI rfl (show wpAny _ _ (Builtin.SmallTypes.ownedTupleIsFree (.ref z) >>= _) _ _ _ from ?_))))
  refine wpAny_bind (free_gone hz hT ?_)
  simp only [if_true]
  refine wpAny_bind (wpAny_rule (wpAny_bind (wpAny_field hz rfl (x := .ref TO) rfl (wpAny_bind (wpAny_setField_rec hz (by simp) fun n1 q1 b1 => wpAny_bind ?_)))))
  replace q1 : ZO n1 z TI TO .ellipsis f := q1
  simp only [List.zipIdx_cons, List.zipIdx_nil, List.forIn_cons, List.forIn_nil]
  refine wpAny_bind (wpAny_bind (wpAny_onRaise (show wpAny _ _ (Builtin.SmallTypes.nextOf (.ref i1) >>= _) _ _ _ from ?_)))
  cases e1 : xs[k1]? with
  | none =>
    refine wpAny_bind (wpAny_nextOf_list_end hh (g1.extBut b1.extBut D.i1z) (m1.extBut b1.extBut D.l1z) e1 fun n2 e b2 st => ?_)
    obtain ⟨oe, st1, st2⟩ := st
    have q2 : ZO n2 z TI TO .ellipsis f := b2 _ _ D.i1z.symm q1
    have ne : e ≠ z := fun x => by subst x; rw [q2] at st1; cases st1; simp at st2
    exact wpAny_setField_rec q2 (by simp) fun n3 _ b3 => k n3 e (fun c o c1 _ c3 _ x => b3.extBut _ _ c1 (b2 _ _ c3 (b1.extBut _ _ c1 x))) ⟨oe, b3.extBut _ _ ne st1, st2⟩
  | some x =>
    have e2 : ys[k2]? = none := by rcases he with h | h; rw [e1] at h; cases h; exact h
    refine wpAny_bind (wpAny_nextOf_list_item (g1.extBut b1.extBut D.i1z) (m1.extBut b1.extBut D.l1z) e1 fun n2 q2 b2 => wpAny_pure ?_)
    have o2 : IsPair n2 TO a b := b2.extBut _ _ D.TOi1 (b1.extBut _ _ D.TOz hO)
    refine wpAny_bind (wpAny_seqItems o2 rfl (wpAny_bind (wpAny_updateSeq_pair o2 fun n3 o3 b3 => wpAny_bind (wpAny_letGo (wpAny_pure ?_)))))
    refine wpAny_bind (wpAny_bind (wpAny_onRaise (show wpAny _ _ (Builtin.SmallTypes.nextOf (.ref i2) >>= _) _ _ _ from ?_)))
    have g2' := ((g2.extBut b1.extBut D.i2z).extBut b2.extBut D.i12.symm).extBut b3.extBut D.TOi2.symm
    have m2' := ((m2.extBut b1.extBut D.l2z).extBut b2.extBut D.l2i1).extBut b3.extBut D.l2TO
    refine wpAny_bind (wpAny_nextOf_list_end hh g2' m2' e2 fun n4 e b4 st => ?_)
    obtain ⟨oe, st1, st2⟩ := st
    have q4 : ZO n4 z TI TO .ellipsis f := b4 _ _ D.i2z.symm (b3.extBut _ _ D.TOz.symm (b2.extBut _ _ D.i1z.symm q1))
    have ne : e ≠ z := fun x => by subst x; rw [q4] at st1; cases st1; simp at st2
    exact wpAny_setField_rec q4 (by simp) fun n5 _ b5 => k n5 e (fun c o c1 c2 c3 c4 x => b5.extBut _ _ c1 (b4 _ _ c4 (b3.extBut _ _ c2 (b2.extBut _ _ c3 (b1.extBut _ _ c1 x))))) ⟨oe, b5.extBut _ _ ne st1, st2⟩
/-- a zip as it stands between two draws -/
def Zst (h : Heap) (z TI TO : Addr) : Prop := IsZip h z TI TO .none ∨ ∃ (T : Addr) (f : Bool), ZO h z TI TO (rawInt T) f
theorem next_zn {x y a b : Value} {Q : Option Value → Shared → Prop} (D : ZipApart z TI TO i1 i2 l1 l2) (hz : Zst s.heap z TI TO) (hI : IsPair s.heap TI (.ref i1) (.ref i2)) (hO : IsPair s.heap TO a b)
    (g1 : s.heap.IsListIter i1 l1 k1) (g2 : s.heap.IsListIter i2 l2 k2) (m1 : s.heap.IsList l1 xs) (m2 : s.heap.IsList l2 ys) (e1 : xs[k1]? = some x) (e2 : ys[k2]? = some y)
    (k : ∀ h', Zst h' z TI TO → (∃ a b, IsPair h' TO a b) → h'.IsListIter i1 l1 (k1 + 1) → h'.IsListIter i2 l2 (k2 + 1) → IsPair h' s.heap.objs.size x y →
      (∀ c o, c ≠ z → c ≠ TO → c ≠ i1 → c ≠ i2 → s.heap.get? c = some o → h'.get? c = some o) → Q (some (.ref s.heap.objs.size)) { s with heap := h' }) : wpAny (model prog w) A (pyNext (.ref z)) Q E s := by
  rcases hz with hz | ⟨T, f, hz⟩
  · exact wpAny_pyNext_zip_item D hz hI hO g1 g2 m1 m2 e1 e2 fun h' a1 a2 a3 a4 a5 _ a7 => k h' (.inr ⟨_, _, a1⟩) ⟨_, _, a2⟩ a3 a4 a5 a7
  · cases hT : s.heap.get? T with
    | some oT => exact wpAny_pyNext_zip_item_held D hz hT hI g1 g2 m1 m2 e1 e2 fun h' a1 a2 a3 a4 _ a6 => k h' (.inr ⟨_, _, a1⟩) ⟨_, _, a6 _ _ D.TOz D.TOi1 D.TOi2 hO⟩ a2 a3 a4 fun c o c1 _ c3 c4 e => a6 c o c1 c3 c4 e
    | none =>
      have ty : s.TypeIs (.ref z) "zip" := ⟨_, hz, rfl⟩
      unfold pyNext
      exact wpAny_bind (wpAny_attempt (wpAny_callSpecial?_slot (name := Str.ofString "__next__") ty F.slot_zip_next (wpAny_call_entry F.slot_zip_next ty F.entry_zip_next (gone_item D hz hT hI hO g1 g2 m1 m2 e1 e2 fun h' a1 a2 a3 a4 a5 a6 => wpAny_pure (k h' (.inr ⟨_, _, a1⟩) ⟨_, _, a2⟩ a3 a4 a5 a6)) (F.args_zip_next_1 _))))
theorem next_zn_end {a b : Value} {Q : Option Value → Shared → Prop} (hh : A.handled = none) (D : ZipApart z TI TO i1 i2 l1 l2) (hz : Zst s.heap z TI TO) (hI : IsPair s.heap TI (.ref i1) (.ref i2)) (hO : IsPair s.heap TO a b)
    (g1 : s.heap.IsListIter i1 l1 k1) (g2 : s.heap.IsListIter i2 l2 k2) (m1 : s.heap.IsList l1 xs) (m2 : s.heap.IsList l2 ys) (he : xs[k1]? = none ∨ ys[k2]? = none)
    (k : ∀ h', (∀ c o, c ≠ z → c ≠ TO → c ≠ i1 → c ≠ i2 → s.heap.get? c = some o → h'.get? c = some o) → Q none { s with heap := h' }) : wpAny (model prog w) A (pyNext (.ref z)) Q E s := by
  rcases hz with hz | ⟨T, f, hz⟩
  · exact wpAny_pyNext_zip_end hh D hz hI hO g1 g2 m1 m2 he fun h' a => k h' a
  · cases hT : s.heap.get? T with
    | some oT => exact wpAny_pyNext_zip_end_held hh D hz hT hI g1 g2 m1 m2 he fun h' a => k h' fun c o c1 _ c3 c4 e => a c o c1 c3 c4 e
    | none =>
      have ty : s.TypeIs (.ref z) "zip" := ⟨_, hz, rfl⟩
      unfold pyNext
      refine wpAny_bind (wpAny_attempt (wpAny_callSpecial?_slot (name := Str.ofString "__next__") ty F.slot_zip_next (wpAny_call_entry F.slot_zip_next ty F.entry_zip_next (gone_end hh D hz hT hI hO g1 g2 m1 m2 he fun h' e hk st => ?_) (F.args_zip_next_1 _))))
      obtain ⟨o, st1, st2⟩ := st
      exact wpAny_bind (wpAny_isInstance (T := "StopIteration") (b := true) ⟨o, st1, st2⟩ isSubtype_stop (wpAny_pure (k _ hk)))
theorem Zst.obj {h : Heap} {z TI TO : Addr} (Z : Zst h z TI TO) : ∃ o, h.get? z = some o ∧ ∀ v, o.data ≠ .cell v := by
  rcases Z with Z | ⟨T, f, Z⟩
  · exact ⟨_, Z, fun _ q => nomatch q⟩
  · exact ⟨_, Z, fun _ q => nomatch q⟩
theorem Zst.keep {h h' : Heap} {z TI TO : Addr} (Z : Zst h z TI TO) (k : ∀ o, h.get? z = some o → h'.get? z = some o) : Zst h' z TI TO := by
  rcases Z with Z | ⟨T, f, Z⟩
  · exact .inl (k _ Z)
  · exact .inr ⟨T, f, k _ Z⟩
theorem Zst.iter {A : Around} {s : Shared} {z TI TO : Addr} {Q : Value → Shared → Prop} {E : Value → Shared → Prop} (Z : Zst s.heap z TI TO) (h : Q (.ref z) s) : wpAny (model prog w) A (pyIter (.ref z)) Q E s := by
  have ty : s.TypeIs (.ref z) "zip" := by
    rcases Z with Z | ⟨T, f, Z⟩ <;> exact ⟨_, Z, rfl⟩
  exact wpAny_pyIter_slot ty F.slot_zip_iter (wpAny_call_entry F.slot_zip_iter ty F.entry_zip_iter (show wpAny _ _ (ret (.ref z)) _ _ s from wpAny_pure ⟨_, rfl, "zip", _, ty, F.slot_zip_next.lookup, h⟩) (F.args_zip_iter_1 _))
end
theorem turn_zipN {P : Program} {w : World} {K : PySem.W.Frag} {y : Str} {tpos : Pos} {a b z TI TO i1 i2 : Addr} (D : ZipApart z TI TO i1 i2 a b) :
    Turn P w K (.Name y tpos) (Itz K a b) [z, TI, TO, i1, i2] z (fun i h => Zst h z TI TO ∧ IsPair h TI (.ref i1) (.ref i2) ∧ (∃ x y, IsPair h TO x y) ∧ h.IsListIter i1 a i ∧ h.IsListIter i2 b i) where
  mem := List.mem_cons_self
  obj := fun i h st c hc => by
    obtain ⟨hz, hTI, ⟨x, y, hTO⟩, ⟨o1, e1, _, d1⟩, ⟨o2, e2, _, d2⟩⟩ := st
    simp only [List.mem_cons, List.not_mem_nil, or_false] at hc
    rcases hc with rfl | rfl | rfl | rfl | rfl
    · exact hz.obj
    · exact ⟨_, hTI, fun v q => nomatch q⟩
    · exact ⟨_, hTO, fun v q => nomatch q⟩
    · exact ⟨o1, e1, fun v q => by rw [d1] at q; cases q⟩
    · exact ⟨o2, e2, fun v q => by rw [d2] at q; cases q⟩
  keep := fun i h h' st k => by
    obtain ⟨hz, hTI, ⟨x, y, hTO⟩, h1, h2⟩ := st
    exact ⟨hz.keep (k z (by simp)), k TI (by simp) _ hTI, ⟨x, y, k TO (by simp) _ hTO⟩, h1.at fun o q => k i1 (by simp) o q, h2.at fun o q => k i2 (by simp) o q⟩
  item := by
    intro X hP hw hK hc i pins s σ H E I hf st hg
    subst hP hw hK
    obtain ⟨hz, hTI, ⟨x0, y0, hTO⟩, h1, h2⟩ := st
    obtain ⟨xs, ys, x, y, hqx, hqy, hx, hy⟩ := hg
    obtain ⟨its, rv, p, _⟩ := I.list hqx
    obtain ⟨its2, rv2, p2, _⟩ := I.list hqy
    obtain ⟨u, hu, ru⟩ := rv.get hx
    obtain ⟨u2, hu2, ru2⟩ := rv2.get hy
    have zl : z < s.heap.objs.size := by
      obtain ⟨o, ho, _⟩ := hz.obj
      exact Heap.lt_size ho
    refine next_zn D hz hTI hTO h1 h2 p.isList p2.isList (x := u) (y := u2) (by simpa using hu) (by simpa using hu2) fun h' z' TO' h1' h2' hT hk => ?_
    refine ⟨_, rfl, (show wpAny _ _ (pure ()) _ _ _ from wpAny_pure ?_)⟩
    have new : ObjOk X.prog X.w (upd H s.heap.objs.size (.tup [x, y])) h' s.heap.objs.size (.tup [x, y]) := ⟨by show 2 ≤ sizeLine; decide, [u, u2], .cons ru (.cons ru2 .nil), ⟨_, hT, rfl, _, rfl⟩⟩
    have kept : ∀ c o, c ∉ [z, TI, TO, i1, i2] → s.heap.get? c = some o → h'.get? c = some o := fun c o hb q => by
      simp only [List.mem_cons, List.not_mem_nil, or_false, not_or] at hb
      exact hk c o hb.1 hb.2.2.1 hb.2.2.2.1 hb.2.2.2.2 q
    have I1 := I.turnedNew (t' := s.toks) (ch := [z, TI, TO, i1, i2]) kept hf (Nat.le_refl _) new
    refine ⟨.ref s.heap.objs.size, _, I1, rfl, ⟨_, x, y, rfl, I.hok.fresh (Nat.le_refl _), rfl, fun l hl => by rw [I.list_inj hl hqx]; exact hx, fun l hl => by rw [I.list_inj hl hqy]; exact hy⟩, ⟨z', hk _ _ D.TIz D.TITO D.TIi1 D.TIi2 hTI, TO', h1', h2'⟩, fun c hcm => ?_⟩
    have hlt : c < s.heap.objs.size := by
      have e' := hcm
      simp only [List.mem_cons, List.not_mem_nil, or_false] at e'
      rcases e' with rfl | rfl | rfl | rfl | rfl
      · exact zl
      · exact Heap.lt_size hTI
      · exact Heap.lt_size hTO
      · obtain ⟨_, e1, _⟩ := h1
        exact Heap.lt_size e1
      · obtain ⟨_, e2, _⟩ := h2
        exact Heap.lt_size e2
    rw [upd_ne (Nat.ne_of_lt hlt)]
    exact (hf c hcm).1
  done := by
    intro X hP hw hK hc i pins s σ H E I hf st hg
    subst hP hw hK
    obtain ⟨hz, hTI, ⟨x0, y0, hTO⟩, h1, h2⟩ := st
    obtain ⟨xs, ys, hqx, hqy, hend⟩ := hg
    obtain ⟨its, rv, p, _⟩ := I.list hqx
    obtain ⟨its2, rv2, p2, _⟩ := I.list hqy
    have l1 := rv.length
    have l2 := rv2.length
    have he : its.toArray[i]? = none ∨ its2.toArray[i]? = none := by
      rcases hend with q | q
      · exact .inl (by simp; omega)
      · exact .inr (by simp; omega)
    refine next_zn_end (I.ok.hd hc) D hz hTI hTO h1 h2 p.isList p2.isList he fun h' hk => ⟨rfl, I.turnedL (t' := s.toks) (ch := [z, TI, TO, i1, i2]) (fun c o hb q => ?_) hf⟩
    simp only [List.mem_cons, List.not_mem_nil, or_false, not_or] at hb
    exact hk c o hb.1 hb.2.2.1 hb.2.2.2.1 hb.2.2.2.2 q
  self := fun A i s Q E st h => st.1.iter h
theorem pi_zipN {X : Cx} {e e2 : Expr} {ta : TA} {y : Str} {p pos tpos : Pos} (hg : Gl X "zip") (hm : X.mg "zip" = none) (ha : L2.PA X [e, e2] ta)
    (hs : starEach [e, e2] X.env = (false, eval e X.env) :: starEach [e2] X.env := by rfl) (hpl : (backTo pos (starEach [e2] X.env)).any (·.1) = false := by rfl) :
    PI X (.Name y tpos) (.Call (.Name "zip" p) [e, e2] [] pos) (iZip X.K ta) := by
  constructor
  intro pins s σ H R I h
  refine Call_ (ld_blt I hg hm PyProof.Rows.boot_zip (PyProof.Rows.callWith_type1 (thn (ha.run pos pins s σ H _ I h) ?_) hs hpl))
  rintro us s1 ⟨vs, H1, I1, r1, a, b, xs, ys, rfl, hqx, hqy, q⟩
  obtain ⟨u1, u2, rfl, r2, r3⟩ := vals2 r1
  cases (show u1 = Value.ref a from r2)
  cases (show u2 = Value.ref b from r3)
  obtain ⟨its, rv, p1, _⟩ := I1.list hqx
  obtain ⟨its2, rv2, p2, _⟩ := I1.list hqy
  have la : a < s1.heap.objs.size := p1.lt
  have lb : b < s1.heap.objs.size := p2.lt
  refine call_zip_2 p1.isList p2.isList fun h' hz hTI hTO h1 h2 hsz hk => wpAny_pyIter_zip hz ?_
  have I2 : Inv X pins σ H1 { s1 with heap := h' } := I1.kept (t' := s1.toks) hk
  refine ⟨s1.heap.objs.size + 4, [s1.heap.objs.size + 4, s1.heap.objs.size + 2, s1.heap.objs.size + 3, s1.heap.objs.size, s1.heap.objs.size + 1], _, _, H1, rfl, I2, turn_zipN (PySem.W.ktu_apart s1.heap.objs.size a b la lb), ⟨.inl hz, hTI, ⟨_, _, hTO⟩, h1, h2⟩, fun c hcm => ?_, q⟩
  have hle : s1.heap.objs.size ≤ c := by
    simp only [List.mem_cons, List.not_mem_nil, or_false] at hcm
    rcases hcm with e | e | e | e | e <;> rw [e] <;> first | exact Nat.le_add_right _ _ | exact Nat.le_refl _
  exact I1.fpOk hle (I1.hok.fresh hle)
end Cr
/-! k24: the first of the shortest paths, a path judged -/
namespace Cr
open PySem PySem.Spec PyProof.Rows L2 Evl
abbrev sFst : Stmt := topS 22
abbrev sIsP : Stmt := topS 23
abbrev nFst : List Str := ["_law_rows", "_law_start", "_law_goal", "_law_far", "_law_found", "_law_source", "_law_target", "_law_nearer"]
abbrev nIsP : List Str := ["_law_rows", "_law_told", "_law_pair"]
theorem scFst : FnScope nFst ["_law_rows", "_law_start", "_law_goal"] (defScope sFst) := ⟨rfl, rfl, rfl, by decide +kernel, rfl, by decide +kernel, by decide +kernel⟩
theorem scIsP : FnScope nIsP ["_law_rows", "_law_told"] (defScope sIsP) := ⟨rfl, rfl, rfl, by decide +kernel, rfl, by decide +kernel, by decide +kernel⟩
theorem ev_lastB {K : PySem.W.Frag} {σ : L2.St} {H : Hp} {i : Nat} {L : Addr} {r : List Str} (h : σ[i]? = some (some (.ref L))) (hL : H L = some (.lst (r.map V.str))) (ne : r ≠ []) : Ev (tOp (rIxL K) (tVar i) (tUn (rU fun i => V.int (-i)) (tC (V.int 1)))) σ H (.str (lastP r)) :=
  ev_op (ev_var h) (ev_un (z := .int (-1)) ev_c fun H1 e1 Q q => ⟨1, rfl, q H1 (Ex.refl H1)⟩) (rv_ixL (sq_of hL) (by
    have := atI_last (r.dropLast.map V.str) (V.str (lastP r))
    have e : r.dropLast.map V.str ++ [V.str (lastP r)] = r.map V.str := by
      have := congrArg (List.map V.str) (lastP_split ne)
      rw [List.map_append] at this
      exact this
    rw [e] at this
    exact this))
theorem ev_dget2 {td ty tx : TE} {σ : L2.St} {H : Hp} {a : Addr} {kvs : List (Key × V)} {x : Str} {z : V} (hd : Ev td σ H (.ref a)) (hy : Ev ty σ H (.str x)) (hz : Ev tx σ H z) (h : H a = some (.dK kvs)) : Ev (tDGet2 td ty tx) σ H ((valV kvs (.inr x)).getD z) := fun H1 e Q q =>
  hd H1 e _ fun H2 e2 => ⟨a, rfl, .inl ⟨kvs, .inl ((e.trans e2) _ _ h)⟩, hy H2 (e.trans e2) _ fun H3 e3 => hz H3 ((e.trans e2).trans e3) _ fun H4 e4 => ⟨_, DGet.k (k := .inr x) ((((e.trans e2).trans e3).trans e4) _ _ h), q H4 ((e2.trans e3).trans e4)⟩⟩
theorem ev_inLD {ta tb : TE} {σ : L2.St} {H : Hp} {d : PyData} {ds : List PyData} (h1 : EvD ta σ H d) (h2 : EvD tb σ H (.list ds)) (s1 : d.canLay0 = true) (s2 : PyData.canLayAll0 ds = true) (dp : d.depth ≤ 5) : Ev (tOp (rInLDt false) ta tb) σ H (.bl (ds.any fun z => PyData.eqv z d)) := fun H1 e1 Q q =>
  h1 H1 e1 _ fun v H2 e2 hv => h2 H2 (e1.trans e2) _ fun u H3 e3 hu => ⟨d, ds, Dt.ex e3 hv, hu, s1, s2, dp, q H3 (e2.trans e3)⟩
theorem least_of : ∀ {l : List Str}, l ≠ [] → ∃ m ∈ l, ∀ k ∈ l, m = k ∨ ltS m k
  | [], h => absurd rfl h
  | [a], _ => ⟨a, List.mem_singleton.mpr rfl, fun k hk => .inl (List.mem_singleton.mp hk).symm⟩
  | a :: b :: r, _ => by
    obtain ⟨m, hm, hl⟩ := least_of (l := b :: r) (List.cons_ne_nil _ _)
    rcases ltS_tri a m with h | h | h
    · refine ⟨a, List.mem_cons_self, fun k hk => ?_⟩
      rcases List.mem_cons.mp hk with hk | hk
      · exact .inl hk.symm
      · rcases hl k hk with e | e
        · rw [← e]; exact .inr h
        · exact .inr (ltS_trans h e)
    · refine ⟨a, List.mem_cons_self, fun k hk => ?_⟩
      rcases List.mem_cons.mp hk with hk | hk
      · exact .inl hk.symm
      · rw [h]; exact hl k hk
    · refine ⟨m, List.mem_cons_of_mem _ hm, fun k hk => ?_⟩
      rcases List.mem_cons.mp hk with hk | hk
      · rw [hk]; exact .inr h
      · exact hl k hk
theorem CP.link {T : Str → List Str} {n : Str} {p : List Str} (h : CP T n p) : ∀ {i : Nat} {x y : Str}, p[i]? = some x → p[i + 1]? = some y → y ∈ T x := by
  induction h with
  | one => intro i x y _ h2; simp at h2
  | @cons n t p m hp ih =>
    intro i x y h1 h2
    obtain ⟨q, rfl⟩ := hp.head
    cases i with
    | zero =>
      cases h1
      cases h2
      exact m
    | succ i => exact ih (i := i) h1 h2
def spFst : Sp := fun vs H Q _ => ∃ (lr : Addr) (start goal : Str) (ps : List Pr) (U : List Str), vs = [.ref lr, .str start, .str goal] ∧ Dt H (.ref lr) (.list (ps.map pD)) ∧ ps.Nodup ∧ ps.length ≤ 1000 ∧ (∀ q ∈ ps, q.1 ∈ U) ∧ goal ∈ U ∧ U.length ≤ 10 ∧ (∀ n ∈ U, isNameS n = true) ∧
  (∀ d, Dist (tgP ps) goal d → (d start = none → ∀ H', Ex H H' → Q .non H') ∧ ∀ k p, d start = some k → Gr (tgP ps) d k start p → ∀ l H', H l = none → Ex H H' → H' l = some (.lst (p.map V.str)) → Q (.ref l) H')
def spIsP : Sp := fun vs H Q _ => ∃ (lr lt : Addr) (ps : List Pr) (a : Str) (p : List Str), vs = [.ref lr, .ref lt] ∧ Dt H (.ref lr) (.list (ps.map pD)) ∧ (∀ q ∈ ps, isNameS q.1 = true ∧ isNameS q.2 = true) ∧ H lt = some (.lst (p.map V.str)) ∧ CP (tgP ps) a p ∧ p.Nodup ∧ p.length ≤ 1000 ∧ ∀ H', Ex H H' → Q (.bl true) H'
section
variable {P : Program} {w : World} {K : PySem.W.Frag} {mg : Str → Option Value} {base : Heap}
theorem ok_fst {f : Addr} {fd : FuncData} {k : Nat} (F : Fun K "_law_first" "_law_first" sFst f fd) (B : Blt mg) (h1 : Has P w K mg base k "_law_distances" ["_law_rows", "_law_goal"] spDis) : FnG P w K mg base CX0 (k + 1) f fd ["_law_rows", "_law_start", "_law_goal"] spFst := by
  obtain ⟨f1, d1, G1, b1, k1, g1⟩ := h1.ex
  refine okG F scFst (fun vs H Q E h => by obtain ⟨_, _, _, _, _, rfl, _⟩ := h; rfl) (fun cdv A outer s H vs Q E hq hr h => ?_)
  obtain ⟨lr, start, goal, ps, U, rfl, hps, dis, few, inU, gU, l10, nmU, q⟩ := h
  have hu : (A.deeper (envOfC "_law_first" (defScope sFst) s.heap.objs.size f cdv)).units + 1 < cLine := by have := hr.units; omega
  refine ⟨_, pss_cons (ps_set (i := 3) scFst.nd rfl (.inr rfl) (callG (E := E0) G1 hq hr (by rfl) g1 k1 b1 .nil pass0 (pa_cons (pv 0) (pa_cons (pv 2) pa_nil))))
    (pss_cons (ps_if (pt_cmp (pc_dnotin hu (pv 1) (pv 3))) (pss_one (ps_ret pe_non)) pss_nil)
    (pss_cons (ps_set (i := 4) scFst.nd rfl (.inr rfl) (pe_lst (pa_cons (pv 1) pa_nil)))
    (pss_cut (ps_while PassesOwn.never (pt_cmpR op_ne (pe_ix ix_list (pv 4) (pe_un un_neg pe_int) (fun _ _ => rfl)) (pv 2) (nomark _))
      (pss_cons (ps_setLc (i := 7) (own := [("_law_source", 5), ("_law_target", 6)]) (g := gTup K 2 (gCons (gName 5) (gCons (gName 6) gNil))) (tt := tAnd (tTest (tOp rEq (tVar 5) (tOp (rIxL K) (tVar 4) (tUn (rU fun i => V.int (-i)) (tC (V.int 1)))))) (tTest (tOp (rI0 fun i j => V.bl (decide (i < j))) (tDGet2 (tVar 3) (tVar 6) (tC (.int 99))) (tDGet (tVar 3) (tOp (rIxL K) (tVar 4) (tUn (rU fun i => V.int (-i)) (tC (V.int 1)))))))) (te := tVar 6) rfl scFst.nd rfl rfl (sw_true rfl rfl rfl (by decide +kernel)) (pi_list (pv 0)) (blkOk_by (own := [("_law_source", 5), ("_law_target", 6)]) (N := nFst) (sc := defScope sFst) (by decide +kernel))
          (fun _ _ _ _ _ => by exact pg_tup rfl (pgs_cons (pg_name (i := 5) scFst.nd rfl (Or.inl rfl)) (pgs_cons (pg_name (i := 6) scFst.nd rfl (Or.inl rfl)) pgs_nil))) (fun _ _ _ _ _ => by exact pts_one (PW.pt (pw_and (pt_cmpR op_eq (pv 5) (pe_ix ix_list (pv 4) (pe_un un_neg pe_int) (fun _ _ => rfl)) (nomark _)) (pw_and1 (pt_cmpR op_lt (pe_dget2 hu (pv 3) (pv 6) pe_int ⟨rfl, rfl, rfl, rfl⟩) (pe_dget hu (pv 3) (pe_ix ix_list (pv 4) (pe_un un_neg pe_int) (fun _ _ => rfl)) (fun _ _ => rfl)) (nomark _)))))) (fun _ _ _ _ _ => pv 6))
      (pss_one (ps_expr (pe_bm PySem.F.plainAttrs_list PySem.F.slot_list_append PySem.F.type_list_append mt_append (pv 4) (pa_cons (pe_callB (cr_minS (by rfl) hr.units) (by rfl) B.min bMin (pa_cons (pv 7) pa_nil)) pa_nil))))))
    (pss_one (ps_ret (pv 4)))))), ?_⟩
  refine ⟨.ref lr, rfl, .str goal, rfl, lr, goal, ps, U, rfl, hps, dis, few, inU, gU, l10, nmU, fun fd F1 kk H1 z1 e1 hf1 L hkk => ?_⟩
  have D := L.dist
  obtain ⟨qn, qs⟩ := q _ D
  show tSeq _ _ _ [some (.ref lr), some (.str start), some (.str goal), some (.ref fd), none, none, none, none] H1
  refine q_when (b := !(farOf F1 start).isSome) (et_is (et_dno (ev_var rfl) (ev_var rfl) hf1) (by rw [kF_val]; cases farOf F1 start <;> rfl)) (fun hb H2 e2 => ?_) (fun hb H2 e2 => ?_)
  · have hn : farOf F1 start = none := by
      cases hh : farOf F1 start with
      | none => rfl
      | some j => rw [hh] at hb; cases hb
    exact s_ret (v := .non) ev_c fun H3 e3 => qn hn H3 ((e1.trans e2).trans e3)
  obtain ⟨k0, hk0⟩ : ∃ k0, farOf F1 start = some k0 := by
    cases hh : farOf F1 start with
    | none => rw [hh] at hb; cases hb
    | some j => exact ⟨j, rfl⟩
  have qs := qs k0
  have ble : ∀ n j, farOf F1 n = some j → j ≤ 12 := fun n j h => Nat.le_trans (L.le _ (L.far.mp h)) hkk
  refine ⟨.str start, rfl, by show 1 ≤ sizeLine; decide, fun lf zf => ?_⟩
  have e12 := e1.trans e2
  have zf0 : H lf = none := fresh_back e12 zf
  show tCut _ _ _ [some (.ref lr), some (.str start), some (.str goal), some (.ref fd), some (.ref lf), none, none, none] (upd H2 lf (.lst [.str start]))
  refine q_cut (M := fun σ H' => ∃ (y7 : Option V) (p : List Str), σ = [some (.ref lr), some (.str start), some (.str goal), some (.ref fd), some (.ref lf), none, none, y7] ∧ Ex H H' ∧ H' lf = some (.lst (p.map V.str)) ∧ Gr (tgP ps) (farOf F1) k0 start p) ?_ ?_
  rotate_left
  · rintro σ H3 ⟨y7, p, rfl, e3, h3, g⟩
    exact ⟨.ref lf, rfl, qs p hk0 g lf H3 zf0 e3 h3⟩
  refine s_while (fun m σ H' => ∃ (y7 : Option V) (pre : List Str) (n : Str), σ = [some (.ref lr), some (.str start), some (.str goal), some (.ref fd), some (.ref lf), none, none, y7] ∧ Ex H H' ∧ H' fd = some (.dK (F1.map kF)) ∧ H' lf = some (.lst ((pre ++ [n]).map V.str)) ∧ farOf F1 n = some m ∧ pre.length + m = k0 ∧ (∀ p, Gr (tgP ps) (farOf F1) m n p → Gr (tgP ps) (farOf F1) k0 start (pre ++ p))) k0 ⟨none, [], start, rfl, Ex.mut e12 zf0, Ex.new zf _ _ (e2 _ _ hf1), upd_same, hk0, Nat.zero_add _, fun p hp => hp⟩ ?_
  rintro m σ H3 ⟨y7, pre, n, rfl, e3, hf3, hl3, hn, hm, go⟩
  have neP : pre ++ [n] ≠ [] := List.append_ne_nil_of_right_ne_nil _ (List.cons_ne_nil _ _)
  have lst : ∀ {Hc : Hp} {σ : L2.St}, Ex H3 Hc → σ[4]? = some (some (.ref lf)) → Ev (tOp (rIxL K) (tVar 4) (tUn (rU fun i => V.int (-i)) (tC (V.int 1)))) σ Hc (.str n) := fun e h => by
    have z := ev_lastB (K := K) (i := 4) (r := pre ++ [n]) h (e _ _ hl3) neP
    rw [lastP_app] at z
    exact z
  refine ⟨!decide (n = goal), et_is (et_test (ev_op (lst (Ex.refl _) rfl) (ev_var rfl) (rv_ne rfl))) (congrArg _ (decide_eq_decide.mpr ⟨fun z => V.str.inj z, fun z => by rw [z]⟩)), fun hb H4 e4 => ?_, fun hb H4 e4 => ?_⟩
  rotate_left
  · rw [Bool.not_eq_false', decide_eq_true_eq] at hb
    have z := (D.zero n).mpr hb
    rw [hn] at z
    cases z
    exact ⟨y7, pre ++ [n], rfl, e3.trans e4, e4 _ _ hl3, go [n] .zero⟩
  rw [Bool.not_eq_true', decide_eq_false_iff_not] at hb
  obtain ⟨m1, rfl⟩ : ∃ m1, m = m1 + 1 := by
    cases m with
    | zero => exact absurd ((D.zero n).mp hn) hb
    | succ m1 => exact ⟨m1, rfl⟩
  have hf4 := e4 _ _ hf3
  have m12 := ble n _ hn
  have vn : valV (F1.map kF) (.inr n) = some (V.int ((m1 + 1 : Nat) : Int)) := by rw [kF_val, hn]; rfl
  have lc := el_lcPr (K := K) (tl := tVar 0) (tt := tAnd (tTest (tOp rEq (tVar 5) (tOp (rIxL K) (tVar 4) (tUn (rU fun i => V.int (-i)) (tC (V.int 1)))))) (tTest (tOp (rI0 fun i j => V.bl (decide (i < j))) (tDGet2 (tVar 3) (tVar 6) (tC (.int 99))) (tDGet (tVar 3) (tOp (rIxL K) (tVar 4) (tUn (rU fun i => V.int (-i)) (tC (V.int 1)))))))) (te := tVar 6) (σ := [some (.ref lr), some (.str start), some (.str goal), some (.ref fd), some (.ref lf), none, none, y7]) (H := H4) (i := 5) (j := 6) (lp := lr) (ps := ps) (fun q : Pr => decide (q.1 = n) && decide (farOf F1 q.2 = some m1)) (fun q => V.str q.2) (ev_var rfl) (Dt.ex (e3.trans e4) hps) few (fun _ _ => rfl)
    (fun q hq H5 e5 => ⟨et_and (et_is (et_test (ev_op (ev_var rfl) (lst (e4.trans e5) rfl) (rv_eq rfl))) (decide_eq_decide.mpr ⟨fun z => V.str.inj z, fun z => by rw [z]⟩)) fun ha => (by
      have ha := of_decide_eq_true ha
      have tq : q.2 ∈ tgP ps n := mem_tgP.mpr (by rw [← ha]; exact hq)
      have v1 := ev_dget2 (td := tVar 3) (ty := tVar 6) (tx := tC (.int 99)) (σ := [some (.ref lr), some (.str start), some (.str goal), some (.ref fd), some (.ref lf), some (.str q.1), some (.str q.2), y7]) (H := H5) (a := fd) (ev_var rfl) (ev_var rfl) ev_c (e5 _ _ hf4) (x := q.2)
      rw [kF_val] at v1
      have v2 := ev_dget (td := tVar 3) (ty := tOp (rIxL K) (tVar 4) (tUn (rU fun i => V.int (-i)) (tC (V.int 1)))) (σ := [some (.ref lr), some (.str start), some (.str goal), some (.ref fd), some (.ref lf), some (.str q.1), some (.str q.2), y7]) (H := H5) (a := fd) (ev_var rfl) (lst (e4.trans e5) rfl) (e5 _ _ hf4) vn
      cases hj : farOf F1 q.2 with
      | none =>
        rw [hj] at v1
        refine et_is (et_test (ev_op v1 v2 (rv_I0 (i := 99)))) ?_
        exact (decide_eq_false (by omega)).trans (decide_eq_false (fun z => by cases z)).symm
      | some j =>
        rw [hj] at v1
        refine et_is (et_test (ev_op v1 v2 (rv_I0 (i := (j : Int))))) ?_
        obtain ⟨i, hi1, hi2⟩ := D.near n q.2 j tq hj
        rw [hn] at hi1
        cases hi1
        refine decide_eq_decide.mpr ⟨fun z => ?_, fun z => ?_⟩
        · congr 1; omega
        · cases z; omega), fun _ => ev_var rfl⟩)
  have eks : (ps.filter fun q : Pr => decide (q.1 = n) && decide (farOf F1 q.2 = some m1)).map (fun q : Pr => V.str q.2) = ((ps.filter fun q : Pr => decide (q.1 = n) && decide (farOf F1 q.2 = some m1)).map (·.2)).map V.str := by rw [List.map_map]; rfl
  rw [eks] at lc
  have mks : ∀ t, t ∈ (ps.filter fun q : Pr => decide (q.1 = n) && decide (farOf F1 q.2 = some m1)).map (·.2) ↔ (t ∈ tgP ps n ∧ farOf F1 t = some m1) := by
    intro t
    rw [List.mem_map]
    constructor
    · rintro ⟨q, h1, rfl⟩
      obtain ⟨h1, h2⟩ := List.mem_filter.mp h1
      rw [Bool.and_eq_true, decide_eq_true_eq, decide_eq_true_eq] at h2
      exact ⟨mem_tgP.mpr (by rw [← h2.1]; exact h1), h2.2⟩
    · rintro ⟨h1, h2⟩
      exact ⟨(n, t), List.mem_filter.mpr ⟨mem_tgP.mp h1, by rw [Bool.and_eq_true, decide_eq_true_eq, decide_eq_true_eq]; exact ⟨rfl, h2⟩⟩, rfl⟩
  generalize (ps.filter fun q : Pr => decide (q.1 = n) && decide (farOf F1 q.2 = some m1)).map (·.2) = ks at lc mks
  obtain ⟨t0, ht0, hd0⟩ := D.down n m1 hn
  obtain ⟨mi, hmi, hle⟩ := least_of (l := ks) (fun z => by have := (mks t0).mpr ⟨ht0, hd0⟩; rw [z] at this; exact nomatch this)
  obtain ⟨hmi1, hmi2⟩ := (mks mi).mp hmi
  refine ⟨fun σ' H' => ∃ (y7 : Option V), σ' = [some (.ref lr), some (.str start), some (.str goal), some (.ref fd), some (.ref lf), none, none, y7] ∧ Ex H H' ∧ H' fd = some (.dK (F1.map kF)) ∧ H' lf = some (.lst (((pre ++ [n]) ++ [mi]).map V.str)), fun σ2 H5 ⟨y7, h1, h2, h3, h4⟩ => ⟨m1, Nat.lt_succ_self _, y7, pre ++ [n], mi, h1, h2, h3, h4, hmi2, by rw [List.length_append]; show pre.length + 1 + m1 = k0; omega, fun p hp => ?_⟩, ?_⟩
  · have g := go (n :: p) (.succ hmi1 hmi2 (fun u hu' hd' => hle u ((mks u).mpr ⟨hu', hd'⟩)) hp)
    rw [List.append_assoc]
    exact g
  refine q_asgL lc fun l5 H5 z5 e5 h5 => ?_
  have e45 := e4.trans e5
  have pl : pre.length ≤ 12 := by have := ble start k0 hk0; omega
  refine s_app (xs := (pre ++ [n]).map V.str) (v := .str mi) (e45 _ _ hl3) (ev_var rfl) (fun H6 e6 Q q => ⟨.ref l5, rfl, l5, ks, mi, rfl, e6 _ _ h5, hmi, hle, q H6 (Ex.refl H6)⟩) (by rw [List.length_map, List.length_append]; show pre.length + 1 < 100000; omega) fun H6 e6 => ?_
  have nfl : fd ≠ lf := fun e => by rw [e, hl3] at hf3; cases hf3
  refine ⟨_, rfl, Ex.mut ((e3.trans e45).trans e6) zf0, by rw [upd_ne nfl]; exact e6 _ _ (e5 _ _ hf4), ?_⟩
  rw [upd_same, List.map_append (l₁ := pre ++ [n])]
  rfl
theorem ok_isP {f : Addr} {fd : FuncData} {k : Nat} (F : Fun K "_law_is_path" "_law_is_path" sIsP f fd) (B : Blt mg) : FnG P w K mg base CX0 (k + 1) f fd ["_law_rows", "_law_told"] spIsP := by
  refine okG F scIsP (fun vs H Q E h => by obtain ⟨_, _, _, _, _, rfl, _⟩ := h; rfl) (fun cdv A outer s H vs Q E hq hr h => ?_)
  obtain ⟨lr, lt, ps, a, p, rfl, hps, psn, hlt, cp, nd, few, q⟩ := h
  refine ⟨_, pss_one (ps_ret (pe_and (pe_callB (cr_all rfl) (by rfl) B.all bAll (pa_cons (pe_lc (own := [("_law_pair", 2)]) (g := gName 2) (tt := tYes) (te := tOp (rInLDt false) (tVar 2) (tVar 0)) rfl scIsP.nd (pi_zipN (by rfl) B.zip (pa_cons (pv 1) (pa_cons (pe_slice sl_list (pv 1) (po_some pe_int) po_none) pa_nil))) (blkOk_by (own := [("_law_pair", 2)]) (N := nIsP) (sc := defScope sIsP) (by decide +kernel))
      (fun _ _ _ _ _ => pg_name (i := 2) scIsP.nd rfl (Or.inl rfl)) (fun _ _ _ _ _ => pts_nil) (fun _ _ _ _ _ => by exact pe_cmpR (op_inLDt hr.units) (pv 2) (pv 0) (by rfl))) pa_nil))
    (pe_one (pe_cmpR op_eq (pe_callB call_lenT (by rfl) B.len bLen (pa_cons (pe_callTy (cr_setT (by rfl)) (by rfl) B.set bSet (pa_cons (pv 1) pa_nil)) pa_nil)) (pe_callB call_len_seq (by rfl) B.len bLen (pa_cons (pv 1) pa_nil)) (nomark _))))), ?_⟩
  obtain ⟨r, rfl⟩ := cp.head
  have lc := el_lcW (wi := iZip K (tCons (tVar 1) (tCons (tSl (rSlL K) (tVar 1) (tPart (tC (.int 1))) tNoPart) tNil))) (g := gName 2) (tt := tYes) (te := tOp (rInLDt false) (tVar 2) (tVar 0)) (vs := [2]) (σ := [some (.ref lr), some (.ref lt), none]) (H := H) (n := min ((a :: r).map V.str).length (r.map V.str).length) (Y := YPair (fun i => ((a :: r).map V.str)[i]?) (fun i => (r.map V.str)[i]?)) (fun _ => true) (fun _ => V.bl true) (by rw [List.length_map]; omega)
    (fun H8 e8 R rr => ⟨.ref lt, rfl, (by
      have sl := el_sl (K := K) (te := tVar 1) (σ := [some (.ref lr), some (.ref lt), none]) (H := H8) (ev_var rfl) (eo_some (ev_c (v := .int 1))) eo_none (sq_of (e8 _ _ hlt))
      rw [List.map_cons, cut_tail] at sl
      exact sl H8 (Ex.refl _) _ fun b H9 zb e9 hb => ⟨lt, b, _, _, rfl, sq_of (e9 _ _ (e8 _ _ hlt)), sq_of hb, rr H9 _ _ (walk_zip rfl) (fun H3 H4 e34 z => ⟨ex_l e34 z.1, ex_l e34 z.2⟩) e9 ⟨sq_of (e9 _ _ (e8 _ _ hlt)), sq_of hb⟩⟩)⟩)
    (fun i x H8 H9 e8 hi hy => by
      obtain ⟨T, x1, y1, rfl, zT, rfl, hx, hy⟩ := hy
      obtain ⟨u, eu, _, rfl⟩ := str_atB hx
      obtain ⟨v, ev, _, rfl⟩ := str_atB hy
      have lk : (u, v) ∈ ps := mem_tgP.mp (cp.link (i := i) eu ev)
      have nq := psn _ lk
      refine ⟨Ex.new zT, [some (.ref lr), some (.ref lt), some (.ref T)], rfl, fun R r => r, fun H4 _ Q q => q H4 (Ex.refl H4), fun _ => ?_⟩
      refine ev_is (ev_inLD (d := pD (u, v)) (ds := ps.map pD) (evd_var rfl (.tup upd_same (.cons (.str _) (.cons (.str _) .nil)))) (evd_var rfl (Dt.ex (e8.trans (Ex.new zT)) hps)) (pr_lay nq.1 nq.2) (prs_lay psn) (by show 1 ≤ 5; decide)) ?_
      rw [any_pD, decide_eq_true lk])
  have eg : given (min ((a :: r).map V.str).length (r.map V.str).length) (fun _ => true) (fun _ => V.bl true) = (List.replicate (min ((a :: r).map V.str).length (r.map V.str).length) true).map V.bl := by
    rw [given_all, List.map_const', List.length_range, List.map_replicate]
  rw [eg] at lc
  have et : (List.replicate (min ((a :: r).map V.str).length (r.map V.str).length) true).all id = true := List.all_eq_true.mpr fun b hb => by rw [List.eq_of_mem_replicate hb]; rfl
  refine s_ret (ev_is (ev_andV (a := true) (b := true) (ev_is (ev_all lc) (congrArg V.bl et)) fun _ => ?_) rfl) q
  refine ev_is (ev_op (x := .int ((a :: r).length : Int)) (y := .int ((a :: r).length : Int)) (fun H1 e1 Q q => ⟨.ref lt, rfl, lt, a :: r, rfl, e1 _ _ hlt, by omega, fun S L z5 ll5 m5 => ⟨S, L, a :: r, rfl, upd_same, nd, m5, by omega, q _ (Ex.new z5)⟩⟩) (ev_is (ev_cb (ea_cons (ev_var rfl) ea_nil) (rc_lenL (sq_of hlt))) (by rw [List.length_map])) (rv_eq rfl)) (congrArg V.bl (decide_eq_true rfl))
end
end Cr
/-! graphs of needs: a shortest path from one to another -/
namespace Cr
open PySem PySem.Spec PyProof.Rows L2 Evl
abbrev sNPath : Stmt := inClass (topS 11) 17
theorem scNPath : FnScope ["self", "one", "other", "path"] ["self", "one", "other"] (defScope sNPath) := ⟨rfl, rfl, rfl, by decide +kernel, rfl, by decide +kernel, by decide +kernel⟩
def pathS (g : List Row) (a b : Str) : Option (List Str) := (pathsP (tgS g) a).find? fun p => decide (lastP p = b)
theorem pathS_some {U : List Str} {g : List Row} {a b : Str} (h : GOk U g) : (pathS g a b).isSome = true ↔ Reach (tgS g) a b := by
  unfold pathS
  rw [List.find?_isSome]
  refine Iff.trans ?_ (paths_done (a := a) (b := b) (fun s t m => (h.tgU m).2) h.uf)
  unfold lasts
  rw [List.mem_map]
  exact ⟨fun ⟨p, hp, e⟩ => ⟨p, hp, of_decide_eq_true e⟩, fun ⟨p, hp, e⟩ => ⟨p, hp, decide_eq_true e⟩⟩
def spPath (C CN : Addr) (n : Nat) : Sp := fun vs H Q E => ∃ x v u d e A U g, vs = [.ref x, v, u] ∧ NdAt C H x A U g ∧ Dt H v d ∧ Dt H u e ∧ sm d = true ∧ sm e = true ∧ cpyTo n d ∧ cpyTo n e ∧
  (isName d = false → ∀ dx H', Rsd1 H H' dx "value" d → E (.ref CN) (some dx) H') ∧ (isName d = true → isName e = false → ∀ dx H', Rsd1 H H' dx "value" e → E (.ref CN) (some dx) H') ∧
  (∀ a b, d = .str a → e = .str b → isNameS a = true → isNameS b = true → (pathS g a b = none → ∀ H', Ex H H' → Q .non H') ∧ (∀ p, pathS g a b = some p → ∀ r H', H r = none → Ex H H' → H' r = some (.lst (p.map V.str)) → Q (.ref r) H'))
theorem find_at {α : Type} {f : α → Bool} : ∀ {l : List α} {j : Nat} {p : α}, l[j]? = some p → f p = true → (∀ k q, k < j → l[k]? = some q → f q = false) → l.find? f = some p
  | a :: r, 0, p, h, hf, _ => by cases h; rw [List.find?_cons, hf]
  | a :: r, j + 1, p, h, hf, hn => by
    rw [List.find?_cons, hn 0 a (by omega) rfl]
    exact find_at (l := r) h hf fun k q hk hq => hn (k + 1) q (by omega) hq
section
variable {P : Program} {w : World} {K : PySem.W.Frag} {mg : Str → Option Value} {base : Heap}
theorem ok_path {f C CN : Addr} {fd : FuncData} {k n : Nat} (F : Fun K "path" "Needs.path" sNPath f fd) (B : Blt mg) (T : NdC K mg C) (h0 : HasE P w K mg base k "check_name" ["value"] (spCheckN CN n)) (h1 : HasM P w K mg base CX0 k C "shortest_paths" ["self", "name"] (spShort C)) : FnOk P w K mg base (L2.CX P w) (k + 1) f fd ["self", "one", "other"] (spPath C CN n) := by
  obtain ⟨f0, d0, G0, b0, k0, g0⟩ := h0.ex
  obtain ⟨f1, d1, G1, b1, m1⟩ := h1.ex
  refine F.okX scNPath (fun vs H Q E h => by obtain ⟨_, _, _, _, _, _, _, _, rfl, _⟩ := h; rfl) (fun cdv A outer s H vs Q E hr h => ?_)
  obtain ⟨x, v, u, d, e, A', U, g, rfl, nd, hd, he, hs, hs2, hc, hc2, q1, q2, q3⟩ := h
  refine ⟨_, pss_cons (ps_expr (pe_call (E := E) G0 hr (by rfl) g0 k0 b0 .nil (passes_call (takes_of rfl rfl rfl rfl) fun _ _ _ _ h => h) (pa_cons (pv 1) pa_nil)))
    (pss_cons (ps_expr (pe_call (E := E) G0 hr (by rfl) g0 k0 b0 .nil (passes_call (takes_of rfl rfl rfl rfl) fun _ _ _ _ h => h) (pa_cons (pv 2) pa_nil)))
    (pss_cut (ps_for (passes_of rfl) rfl (pi_list (pe_meth (E := E0) (pv 0) T.cl m1 G1 hr b1 .nil pass0 (pa_cons (pv 1) pa_nil))) (pg_name (i := 3) scNPath.nd rfl (.inl rfl))
      (pss_one (ps_if (pt_cmpR op_eq (pe_ix ix_list (pv 3) (pe_un un_neg pe_int) (fun _ _ => rfl)) (pv 2) (nomark _)) (pss_one (ps_ret (pv 3))) pss_nil)))
    (pss_one (ps_ret pe_non)))), ?_⟩
  refine ⟨v, rfl, v, d, rfl, hd, hs, hc, fun n1 H1 e1 => ?_, q1⟩
  refine ⟨u, rfl, u, e, rfl, Dt.ex e1 he, hs2, hc2, fun n2 H2 e2 => ?_, fun n2 dx H' r => q2 n1 n2 dx H' (r.back e1)⟩
  obtain ⟨a, rfl, na⟩ := name_str n1
  obtain ⟨b, rfl, nb⟩ := name_str n2
  cases hd with
  | str =>
  cases he with
  | str =>
  have e12 := e1.trans e2
  have nd2 := nd.ex e12
  have hT : ∀ s t, t ∈ tgS g s → t ∈ U := fun s t m => (nd.ok.tgU m).2
  obtain ⟨qn, qs⟩ := q3 a b rfl rfl na nb
  clear q3
  unfold pathS at qn qs
  have pne0 : ∀ p ∈ pathsP (tgS g) a, p ≠ [] := fun p hp => run_ne hp
  refine q_cut (M := fun σ H' => ∃ y3, σ = [some (.ref x), some (.str a), some (.str b), y3] ∧ Ex H H' ∧ (pathsP (tgS g) a).find? (fun p => decide (lastP p = b)) = none) ?_ ?_
  rotate_left
  · rintro σ H3 ⟨y3, rfl, e3, hn⟩
    exact qn hn H3 e3
  refine ⟨.ref x, rfl, x, A'.dx, _, rfl, nd2.ob, rfl, .str a, rfl, x, a, A', U, g, rfl, nd2, na, fun l rs H3 zl e3 hl pa nr => ?_⟩
  generalize pathsP (tgS g) a = PP at pne0 qn qs pa ⊢
  have lr := pa.len
  have e13 := e12.trans e3
  refine ⟨l, rfl, ⟨_, sq_of hl⟩, for_list (xs := rs.map V.ref) (fun j σ' H' => ∃ y3, σ' = [some (.ref x), some (.str a), some (.str b), y3] ∧ Ex H3 H' ∧ ∀ k p, k < j → PP[k]? = some p → lastP p ≠ b) ⟨none, rfl, Ex.refl _, fun k p hk => absurd hk (Nat.not_lt_zero _)⟩ (fun j σ' H' _ ⟨_, _, z, _⟩ => sq_of (z _ _ hl)) ?_ ?_⟩
  · rintro j y σ' H4 hj ⟨y3, rfl, e4, hno⟩
    rw [List.getElem?_map] at hj
    obtain ⟨r, hr', rfl⟩ : ∃ r, rs[j]? = some r ∧ V.ref r = y := by
      cases hh : rs[j]? with
      | none => rw [hh] at hj; cases hj
      | some r => rw [hh] at hj; exact ⟨r, rfl, Option.some.inj hj⟩
    have il : j < PP.length := by
      rw [← lr]
      exact (List.getElem?_eq_some_iff.mp hr').1
    obtain ⟨p, hp⟩ : ∃ p, PP[j]? = some p := ⟨_, List.getElem?_eq_getElem il⟩
    have pne := pne0 p (List.mem_of_getElem? hp)
    have hr4 := e4 _ _ (pa.at_ j r p hr' hp)
    have il : Ev (tOp (rIxL K) (tVar 3) (tUn (rU fun i => V.int (-i)) (tC (V.int 1)))) [some (.ref x), some (.str a), some (.str b), some (.ref r)] H4 (.str (lastP p)) :=
      ev_op (ev_var rfl) (ev_un (z := .int (-1)) ev_c fun H1 e1 Q q => ⟨1, rfl, q H1 (Ex.refl H1)⟩) (rv_ixL (sq_of hr4) (by
        have := atI_last (p.dropLast.map V.str) (V.str (lastP p))
        have e : p.dropLast.map V.str ++ [V.str (lastP p)] = p.map V.str := by
          have := congrArg (List.map V.str) (lastP_split pne)
          rw [List.map_append] at this
          exact this
        rw [e] at this
        exact this))
    show tIfS _ _ _ _ [some (.ref x), some (.str a), some (.str b), some (.ref r)] H4
    refine s_when (b := decide (V.str (lastP p) = V.str b)) (et_test (ev_op il (ev_var rfl) (rv_eq rfl))) (fun hb H5 e5 => ?_) (fun hb H5 e5 => ?_)
    · have eb : lastP p = b := V.str.inj (of_decide_eq_true hb)
      refine s_ret (ev_var rfl) fun H6 e6 => ?_
      exact qs p (find_at hp (decide_eq_true eb) fun k q hk hq => decide_eq_false (hno k q hk hq)) r H6 (fresh_back e12 (nr r (List.mem_of_getElem? hr')).2) (((e13.trans e4).trans e5).trans e6) (e6 _ _ (e5 _ _ hr4))
    · refine ⟨_, rfl, e4.trans e5, fun k p' hk hp' => ?_⟩
      by_cases ek : k = j
      · rw [ek, hp] at hp'
        cases hp'
        exact fun z => of_decide_eq_false hb (by rw [z])
      · exact hno k p' (by omega) hp'
  · rintro σ' H4 ⟨y3, rfl, e4, hno⟩
    refine ⟨y3, rfl, e13.trans e4, List.find?_eq_none.mpr fun p hp => ?_⟩
    obtain ⟨k, hk, e⟩ := List.mem_iff_getElem.mp hp
    intro z
    refine hno k p (by rw [List.length_map, lr]; exact hk) (by rw [List.getElem?_eq_getElem hk, e]) (of_decide_eq_true z)
end
end Cr
/-! k24: the paths stand as the law's pairs tell -/
namespace Cr
open PySem PySem.Spec PyProof.Rows L2 Evl
abbrev sSta : Stmt := topS 24
abbrev nSta : List Str := ["_law_made", "_law_names", "_law_rows", "_law_start", "_law_goal", "_law_told"]
theorem scSta : FnScope nSta ["_law_made", "_law_names", "_law_rows"] (defScope sSta) := ⟨rfl, rfl, rfl, by decide +kernel, rfl, by decide +kernel, by decide +kernel⟩
def spSta (C : Addr) : Sp := fun vs H Q _ => ∃ (x ln lr : Addr) (A : NdA) (g : List Row) (ns : List Str) (ps : List Pr), vs = [.ref x, .ref ln, .ref lr] ∧ NdAt C H x A ns g ∧ H ln = some (.lst (ns.map V.str)) ∧ Dt H (.ref lr) (.list (ps.map pD)) ∧ ps.Nodup ∧ ps.length ≤ 1000 ∧ (∀ q : Pr, q.2 ∈ tgS g q.1 ↔ q ∈ ps) ∧ 0 < ns.length ∧ ns.length ≤ 10 ∧ ∀ H', Ex H H' → Q (.bl true) H'
section
variable {C CN x : Addr} {n : Nat} {A : NdA} {U : List Str} {g : List Row} {σ : L2.St} {H : Hp} {i : Nat} {ty tz : TE} {E : XK} {a b : Str} {p : List Str}
theorem ev_pathN (h : σ[i]? = some (some (.ref x))) (hy : ∀ H1, Ex H H1 → Ev ty σ H1 (.str a)) (hz : ∀ H1, Ex H H1 → Ev tz σ H1 (.str b)) (nd : NdAt C H x A U g) (hn : 1 ≤ n) (na : isNameS a = true) (nb : isNameS b = true) (hp : pathS g a b = none) : Ev (tMeth C "path" (spPath C CN n) [] E (tVar i) (tCons ty (tCons tz tNil))) σ H .non := fun H1 e Q q => by
  refine ⟨.ref x, h, x, A.dx, _, rfl, (nd.ex e).ob, rfl, hy H1 e H1 (Ex.refl H1) _ fun H2 e2 => hz H2 (e.trans e2) H2 (Ex.refl H2) _ fun H3 e3 => ⟨x, .str a, .str b, .str a, .str b, A, U, g, rfl, nd.ex ((e.trans e2).trans e3), .str a, .str b, sm_name na, sm_name nb, ⟨rfl, by show 0 < n; omega⟩, ⟨rfl, by show 0 < n; omega⟩, fun z => ?_, fun _ z => ?_, fun a' b' ea eb _ _ => ?_⟩⟩
  · rw [show isName (.str a) = true from na] at z; cases z
  · rw [show isName (.str b) = true from nb] at z; cases z
  · cases ea
    cases eb
    exact ⟨fun _ H' e' => q H' ((e2.trans e3).trans e'), fun p' hp' => by rw [hp] at hp'; cases hp'⟩
theorem el_pathS (h : σ[i]? = some (some (.ref x))) (hy : ∀ H1, Ex H H1 → Ev ty σ H1 (.str a)) (hz : ∀ H1, Ex H H1 → Ev tz σ H1 (.str b)) (nd : NdAt C H x A U g) (hn : 1 ≤ n) (na : isNameS a = true) (nb : isNameS b = true) (hp : pathS g a b = some p) : EvL (tMeth C "path" (spPath C CN n) [] E (tVar i) (tCons ty (tCons tz tNil))) σ H (p.map V.str) := fun H1 e Q q => by
  refine ⟨.ref x, h, x, A.dx, _, rfl, (nd.ex e).ob, rfl, hy H1 e H1 (Ex.refl H1) _ fun H2 e2 => hz H2 (e.trans e2) H2 (Ex.refl H2) _ fun H3 e3 => ⟨x, .str a, .str b, .str a, .str b, A, U, g, rfl, nd.ex ((e.trans e2).trans e3), .str a, .str b, sm_name na, sm_name nb, ⟨rfl, by show 0 < n; omega⟩, ⟨rfl, by show 0 < n; omega⟩, fun z => ?_, fun _ z => ?_, fun a' b' ea eb _ _ => ?_⟩⟩
  · rw [show isName (.str a) = true from na] at z; cases z
  · rw [show isName (.str b) = true from nb] at z; cases z
  · cases ea
    cases eb
    refine ⟨fun hp' => (by rw [hp] at hp'; cases hp'), fun p' hp' r H' zr e' hr => ?_⟩
    rw [hp] at hp'
    cases hp'
    exact q r H' (fresh_back (e2.trans e3) zr) ((e2.trans e3).trans e') hr
end
theorem pathS_self {g : List Row} {a : Str} : pathS g a a = some [a] := by
  unfold pathS pathsP
  obtain ⟨r, hr⟩ := run_pre (T := tgS g) (a := a) (Nat.zero_le 64)
  rw [← hr]
  show List.find? _ ([a] :: r) = _
  rw [List.find?_cons, show decide (lastP [a] = a) = true from decide_eq_true rfl]
theorem path_run {g : List Row} {a b : Str} {p : List Str} (h : pathS g a b = some p) : p ∈ runP (tgS g) a 64 := by
  unfold pathS pathsP at h
  exact List.mem_of_find?_eq_some h
theorem run_path_is {g : List Row} {a b : Str} {p : List Str} (h : (runP (tgS g) a 64).find? (fun p => decide (lastP p = b)) = some p) : pathS g a b = some p := by
  unfold pathS pathsP
  exact h
theorem cut_init (xs : List V) (v : V) : cutV (xs ++ [v]) none (some (-1)) = xs := by
  unfold cutV HT.sIx
  simp
  rw [show (-1 + ((xs.length : Int) + 1)).toNat = xs.length by omega]
  exact List.take_left
theorem cut_one (v : V) (xs : List V) : cutV (v :: xs) none (some 1) = [v] := by
  unfold cutV HT.sIx
  simp
theorem Dist.of_mem {T T' : Str → List Str} {b : Str} {d : Str → Option Nat} (D : Dist T b d) (h : ∀ n t, t ∈ T n ↔ t ∈ T' n) : Dist T' b d := ⟨D.zero, fun n k hk => by obtain ⟨t, h1, h2⟩ := D.down n k hk; exact ⟨t, (h n t).mp h1, h2⟩, fun n t k ht hk => D.near n t k ((h n t).mpr ht) hk⟩
theorem Gr.of_mem {T T' : Str → List Str} {d : Str → Option Nat} {k : Nat} {n : Str} {p : List Str} (g : Gr T d k n p) (h : ∀ n t, t ∈ T n ↔ t ∈ T' n) : Gr T' d k n p := by
  induction g with
  | zero => exact .zero
  | @succ n t k p m hd hl _ ih => exact .succ ((h n t).mp m) hd (fun u hu hd' => hl u ((h n u).mpr hu) hd') ih
theorem CP.of_mem {T T' : Str → List Str} {n : Str} {p : List Str} (c : CP T n p) (h : ∀ n t, t ∈ T n ↔ t ∈ T' n) : CP T' n p := by
  induction c with
  | one => exact .one
  | cons m _ ih => exact .cons ((h _ _).mp m) ih
theorem path_inB {T : Str → List Str} {a : Str} {U : List Str} (ha : a ∈ U) (hT : ∀ s t, t ∈ T s → t ∈ U) {r : List Str} (h : IsPath T a r) : ∀ y ∈ r, y ∈ U := by
  induction h with
  | one => exact fun y hy => by rw [List.mem_singleton.mp hy]; exact ha
  | more _ m ih =>
    intro y hy
    rcases List.mem_append.mp hy with h | h
    · exact ih y h
    · rw [List.mem_singleton.mp h]; exact hT _ _ m
theorem ev_eqD {ta tb : TE} {σ : L2.St} {H : Hp} {d e : PyData} (h1 : EvD ta σ H d) (h2 : EvD tb σ H e) (s1 : SeqAt.shaped d = true) (s2 : SeqAt.shaped e = true) : Ev (tOp rEqDt ta tb) σ H (.bl (PyData.eqv d e)) := fun H1 e1 Q q => h1 H1 e1 _ fun v H2 e2 hv => h2 H2 (e1.trans e2) _ fun u H3 e3 hu => ⟨d, e, Dt.ex e3 hv, hu, s1, s2, q H3 (e2.trans e3)⟩
section
variable {P : Program} {w : World} {K : PySem.W.Frag} {mg : Str → Option Value} {base : Heap}
theorem ok_sta {f C CN : Addr} {fd : FuncData} {k n : Nat} (F : Fun K "_law_stands" "_law_stands" sSta f fd) (B : Blt mg) (N : NdC K mg C) (hn1 : 1 ≤ n) (h1 : Has P w K mg base k "_law_first" ["_law_rows", "_law_start", "_law_goal"] spFst) (h2 : Has P w K mg base k "_law_is_path" ["_law_rows", "_law_told"] spIsP)
    (h3 : HasM P w K mg base (L2.CX P w) k C "path" ["self", "one", "other"] (spPath C CN n)) (h4 : HasM P w K mg base (L2.CX P w) k C "depends" ["self", "one", "other"] (spDep C CN n)) (h7 : HasM P w K mg base CX0 k C "pairs" ["self"] (spPairs C)) :
    FnG P w K mg base CX0 (k + 1) f fd ["_law_made", "_law_names", "_law_rows"] (spSta C) := by
  obtain ⟨f1, d1, G1, b1, k1, g1⟩ := h1.ex
  obtain ⟨f2, d2, G2, b2, k2, g2⟩ := h2.ex
  obtain ⟨f3, d3, G3, b3, m3⟩ := h3.ex
  obtain ⟨f4, d4, G4, b4, m4⟩ := h4.ex
  obtain ⟨f7, d7, G7, b7, m7⟩ := h7.ex
  refine okG F scSta (fun vs H Q E h => by obtain ⟨_, _, _, _, _, _, _, rfl, _⟩ := h; rfl) (fun cdv A outer s H vs Q E hq hr h => ?_)
  obtain ⟨x, ln, lr, A', g, ns, ps, rfl, nd, hln, hps, dis, few, hm, n0, l10, q⟩ := h
  refine ⟨_, pss_cons (ps_for PassesOwn.never rfl (pi_list (pv 1)) (pg_name (i := 3) scSta.nd rfl (.inl rfl))
      (pss_one (ps_for PassesOwn.never rfl (pi_list (pv 1)) (pg_name (i := 4) scSta.nd rfl (.inl rfl))
        (pss_cons (ps_set (i := 5) scSta.nd rfl (.inl rfl) (pe_meth (E := E0) (pv 0) N.cl m3 G3 hr b3 .nil passL (pa_cons (pv 3) (pa_cons (pv 4) pa_nil))))
        (pss_cons (ps_if (PW.pt (pw_or (pt_cmpR op_ne (pe_callB (call_reprG hq hr.units) (by rfl) B.repr bRepr (pa_cons (pv 5) pa_nil)) (pe_callB (call_reprG hq hr.units) (by rfl) B.repr bRepr (pa_cons (callG (E := E0) G1 hq hr (by rfl) g1 k1 b1 .nil pass0 (pa_cons (pv 2) (pa_cons (pv 3) (pa_cons (pv 4) pa_nil)))) pa_nil)) (nomark _)) (pw_or1 (pt_cmpR op_ne (pe_meth (E := E0) (pv 0) N.cl m4 G4 hr b4 .nil passL (pa_cons (pv 3) (pa_cons (pv 4) pa_nil))) (pe_cmpR op_notN (pv 5) pe_non (nomark _)) (nomark _))))) (pss_one (ps_ret pe_bl)) pss_nil)
        (pss_one (ps_if (pt_cmpR op_notN (pv 5) pe_non (nomark _))
          (pss_cons (ps_if (pt_not (pt_val (callG (E := E0) G2 hq hr (by rfl) g2 k2 b2 .nil pass0 (pa_cons (pv 2) (pa_cons (pv 5) pa_nil))))) (pss_one (ps_ret pe_bl)) pss_nil)
          (pss_cons (ps_expr (pe_bm PySem.F.plainAttrs_list PySem.F.slot_list_append PySem.F.type_list_append mt_append (pv 5) (pa_cons pe_str pa_nil)))
          (pss_one (ps_if (pt_cmpR (op_neDt hr.units) (pe_meth (E := E0) (pv 0) N.cl m3 G3 hr b3 .nil passL (pa_cons (pv 3) (pa_cons (pv 4) pa_nil))) (pe_slice sl_list (pv 5) po_none (po_some (pe_un un_neg pe_int))) (nomark _)) (pss_one (ps_ret pe_bl)) pss_nil)))) pss_nil)))))))
    (pss_cons (ps_expr (pe_bm PySem.F.plainAttrs_list PySem.F.slot_list_append PySem.F.type_list_append mt_append (pe_meth (E := E0) (pv 0) N.cl m3 G3 hr b3 .nil passL (pa_cons (pe_ix ix_list (pv 1) pe_int (fun _ _ => rfl)) (pa_cons (pe_ix ix_list (pv 1) pe_int (fun _ _ => rfl)) pa_nil))) (pa_cons pe_str pa_nil)))
    (pss_one (ps_ret (pe_and (pe_cmpR (op_eqDt hr.units) (pe_meth (E := E0) (pv 0) N.cl m3 G3 hr b3 .nil passL (pa_cons (pe_ix ix_list (pv 1) pe_int (fun _ _ => rfl)) (pa_cons (pe_ix ix_list (pv 1) pe_int (fun _ _ => rfl)) pa_nil))) (pe_slice sl_list (pv 1) po_none (po_some pe_int)) (nomark _))
      (pe_one (pe_cmpR (op_eqDt hr.units) (pe_meth0 (E := E0) (pv 0) N.cl m7 G7 hr b7 .nil pass0) (pe_callB (call_sortDt hr.units) (by rfl) B.sorted bSorted (pa_cons (pv 2) pa_nil)) (nomark _))))))), ?_⟩
  have ok := nd.ok
  have inU : ∀ q ∈ ps, q.1 ∈ ns ∧ q.2 ∈ ns := fun q hq => ok.tgU ((hm q).mpr hq)
  have psn : ∀ q ∈ ps, isNameS q.1 = true ∧ isNameS q.2 = true := fun q hq => ok.name ((hm q).mpr hq)
  have memT : ∀ n t, t ∈ tgP ps n ↔ t ∈ tgS g n := fun n t => mem_tgP.trans (hm (n, t)).symm
  have hT : ∀ s t, t ∈ tgS g s → t ∈ ns := fun s t m => (ok.tgU m).2
  have few64 : ∀ a, (runP (tgS g) a 64).length ≤ 64 := fun a => Nat.le_trans (run_few hT ok.uf 64) (by decide)
  have fstD : ∀ {a b : Str} {σ : L2.St} {H1 : Hp}, Ex H H1 → b ∈ ns → σ[2]? = some (some (.ref lr)) → σ[3]? = some (some (.str a)) → σ[4]? = some (some (.str b)) → EvD (tCall spFst [] E0 (tCons (tVar 2) (tCons (tVar 3) (tCons (tVar 4) tNil)))) σ H1 (match pathS g a b with | none => .none | some p => lD p) := fun {a b σ H1} e1 hb h2 h3 h4 H2 e2 Q' q' => by
    refine ⟨.ref lr, h2, .str a, h3, .str b, h4, lr, a, b, ps, ns, rfl, Dt.ex (e1.trans e2) hps, dis, few, fun q hq => (inU q hq).1, hb, l10, ok.un, fun d D => ⟨fun hn H3 e3 => ?_, fun k p hk G l H3 zl e3 hl => ?_⟩⟩
    · have D' := D.of_mem memT
      have no : pathS g a b = none := by
        cases hp : pathS g a b with
        | none => rfl
        | some p =>
          obtain ⟨k, hk⟩ := D'.reach ((pathS_some ok).mp (by rw [hp]; rfl))
          rw [hn] at hk
          cases hk
      rw [no] at q'
      exact q' .non H3 e3 .non
    · have yes : pathS g a b = some p := run_path_is ((G.of_mem memT).found (D.of_mem memT) hk ok.up' (few64 a))
      rw [yes] at q'
      exact q' (.ref l) H3 e3 (.lst hl (dts_strs p))
  refine q_forLn (a := ln) (xs := ns.map V.str) (ev_var rfl) (sq_of hln) (fun _ σ' H' => (∃ (y3 y4 y5 : Option V), σ' = [some (.ref x), some (.ref ln), some (.ref lr), y3, y4, y5]) ∧ Ex H H') (fun H1 e1 => ⟨⟨none, none, none, rfl⟩, e1⟩) (fun i σ' H' _ h => sq_of (h.2 _ _ hln)) ?_ ?_
  · rintro i v σ' H1 hi ⟨⟨y3, y4, y5, rfl⟩, e1⟩
    obtain ⟨a, _, ha, rfl⟩ := str_at hi
    have na := ok.un a ha
    show tFor _ _ _ _ [some (.ref x), some (.ref ln), some (.ref lr), some (.str a), y4, y5] H1
    refine s_forLn (a := ln) (xs := ns.map V.str) (ev_var rfl) (sq_of (e1 _ _ hln)) (fun _ σ' H' => (∃ (y4 y5 : Option V), σ' = [some (.ref x), some (.ref ln), some (.ref lr), some (.str a), y4, y5]) ∧ Ex H H') (fun H2 e2 => ⟨⟨y4, y5, rfl⟩, e1.trans e2⟩) (fun i σ' H' _ h => sq_of (h.2 _ _ hln)) ?_ ?_
    rotate_left
    · rintro σ' H2 ⟨⟨y4, y5, rfl⟩, e2⟩
      exact ⟨⟨_, y4, y5, rfl⟩, e2⟩
    rintro j v σ' H2 hj ⟨⟨y4, y5, rfl⟩, e2⟩
    obtain ⟨b, _, hb, rfl⟩ := str_at hj
    have nb := ok.un b hb
    show tSeq _ _ _ [some (.ref x), some (.ref ln), some (.ref lr), some (.str a), some (.str b), y5] H2
    have rch : (pathS g a b).isSome = decide (b ∈ cloS g a) := by
      rw [Bool.eq_iff_iff, decide_eq_true_iff, pathS_some ok, mem_clo ok]
    cases hp : pathS g a b with
    | none =>
      rw [hp] at rch
      refine q_asg (ev_pathN rfl (fun _ _ => ev_var rfl) (fun _ _ => ev_var rfl) (nd.ex e2) hn1 na nb hp) fun H3 e3 => ?_
      have e23 := e2.trans e3
      have fd := fstD (a := a) (b := b) (σ := [some (.ref x), some (.ref ln), some (.ref lr), some (.str a), some (.str b), some .non]) e23 hb rfl rfl rfl
      rw [hp] at fd
      show tSeq _ _ _ [some (.ref x), some (.ref ln), some (.ref lr), some (.str a), some (.str b), some .non] H3
      refine q_when (b := false) (et_is (et_or (b := false) (neR_same (d := .none) (evd_var rfl .non) fd fits_none) fun _ => et_is (et_test (ev_op (ev_is (ev_dep rfl (fun _ _ => ev_var rfl) (fun _ _ => ev_var rfl) (nd.ex e23) hn1 na nb) (congrArg V.bl rch.symm)) (ev_op (ev_var rfl) ev_c (fun H1 _ Q q => ⟨rfl, q H1 (Ex.refl H1)⟩ : RV (fun x y H Q => y = .non ∧ Q (.bl (!decide (x = .non))) H) .non .non _ (.bl false))) (rv_ne rfl))) rfl) rfl) (fun z => nomatch z) (fun _ H4 e4 => ?_)
      refine s_when (b := false) (et_is (et_test (ev_op (ev_var rfl) ev_c rv_notN)) rfl) (fun z => nomatch z) (fun _ H5 e5 => ?_)
      exact ⟨⟨_, _, rfl⟩, (e23.trans e4).trans e5⟩
    | some p =>
      rw [hp] at rch
      have pm : p ∈ runP (tgS g) a 64 := path_run hp
      obtain ⟨ip, pnd, _⟩ := run_path (T := tgS g) (a := a) 64 p pm
      have cp := ip.cp
      have pin : ∀ y ∈ p, y ∈ ns := path_inB ha hT ip
      have pn : ∀ y ∈ p, isNameS y = true := fun y hy => ok.un y (pin y hy)
      have pl : p.length ≤ 10 := Nat.le_trans (nodup_len pnd pin) l10
      refine q_asgL (el_pathS rfl (fun _ _ => ev_var rfl) (fun _ _ => ev_var rfl) (nd.ex e2) hn1 na nb hp) fun r H3 zr e3 hr3 => ?_
      have e23 := e2.trans e3
      have zr0 : H r = none := fresh_back e2 zr
      have fd := fstD (a := a) (b := b) (σ := [some (.ref x), some (.ref ln), some (.ref lr), some (.str a), some (.str b), some (.ref r)]) e23 hb rfl rfl rfl
      rw [hp] at fd
      show tSeq _ _ _ [some (.ref x), some (.ref ln), some (.ref lr), some (.str a), some (.str b), some (.ref r)] H3
      refine q_when (b := false) (et_is (et_or (b := false) (neR_same (d := lD p) (evd_var rfl (.lst hr3 (dts_strs p))) fd (lD_fits pn (by omega))) fun _ => et_is (et_test (ev_op (ev_is (ev_dep rfl (fun _ _ => ev_var rfl) (fun _ _ => ev_var rfl) (nd.ex e23) hn1 na nb) (congrArg V.bl rch.symm)) (ev_op (ev_var rfl) ev_c (fun H1 _ Q q => ⟨rfl, q H1 (Ex.refl H1)⟩ : RV (fun x y H Q => y = .non ∧ Q (.bl (!decide (x = .non))) H) (.ref r) .non _ (.bl true))) (rv_ne rfl))) rfl) rfl) (fun z => nomatch z) (fun _ H4 e4 => ?_)
      refine s_when (b := true) (et_is (et_test (ev_op (ev_var rfl) ev_c rv_notN)) rfl) (fun _ H5 e5 => ?_) (fun z => nomatch z)
      have e25 := (e23.trans e4).trans e5
      have hr5 := e5 _ _ (e4 _ _ hr3)
      have isp : Ev (tCall spIsP [] E0 (tCons (tVar 2) (tCons (tVar 5) tNil))) [some (.ref x), some (.ref ln), some (.ref lr), some (.str a), some (.str b), some (.ref r)] H5 (.bl true) := fun H6 e6 Q' q' => ⟨.ref lr, rfl, .ref r, rfl, lr, r, ps, a, p, rfl, Dt.ex (e25.trans e6) hps, psn, e6 _ _ hr5, cp.of_mem fun n t => (memT n t).symm, pnd, by omega, q'⟩
      refine q_when (b := false) (et_is (et_not (et_B isp)) rfl) (fun z => nomatch z) (fun _ H6 e6 => ?_)
      refine q_app (xs := p.map V.str) (v := .str "extra") (e6 _ _ hr5) (ev_var rfl) ev_c (by rw [List.length_map]; omega) fun H7 e7 => ?_
      have e27 : Ex H (upd H7 r (.lst (p.map V.str ++ [.str "extra"]))) := Ex.mut ((e25.trans e6).trans e7) zr0
      have hr8 : (upd H7 r (.lst (p.map V.str ++ [.str "extra"]))) r = some (.lst (p.map V.str ++ [.str "extra"])) := upd_same
      generalize upd H7 r (.lst (p.map V.str ++ [.str "extra"])) = H8 at e27 hr8
      have sl := el_sl (K := K) (te := tVar 5) (tl := tNoPart) (th := tPart (tUn (rU fun i => V.int (-i)) (tC (V.int 1)))) (σ := [some (.ref x), some (.ref ln), some (.ref lr), some (.str a), some (.str b), some (.ref r)]) (H := H8) (ev_var rfl) eo_none (eo_some (ev_un (z := .int (-1)) ev_c fun H1 e1 Q q => ⟨1, rfl, q H1 (Ex.refl H1)⟩)) (sq_of hr8)
      rw [cut_init] at sl
      have sh : SeqAt.shaped (.list (p.map PyData.str)) = true := strs_shaped pn
      refine s_when (b := false) (et_is (et_neD (evd_ofLD (el_pathS rfl (fun _ _ => ev_var rfl) (fun _ _ => ev_var rfl) (nd.ex e27) hn1 na nb hp) fun _ => dts_strs p) (evd_ofLD sl fun _ => dts_strs p) sh sh) (by rw [SeqAt.eqv_refl _ (lay_strs pn).1]; rfl)) (fun z => nomatch z) (fun _ H9 e9 => ?_)
      exact ⟨⟨_, _, rfl⟩, e27.trans e9⟩
  rintro σ' H1 ⟨⟨y3, y4, y5, rfl⟩, e1⟩
  obtain ⟨a, rest, rfl⟩ : ∃ a rest, ns = a :: rest := by
    cases ns with
    | nil => exact absurd n0 (by decide)
    | cons a r => exact ⟨a, r, rfl⟩
  have na := ok.un a List.mem_cons_self
  have ix : ∀ {Hc : Hp}, Ex H Hc → Ev (tOp (rIxL K) (tVar 1) (tC (.int 0))) [some (.ref x), some (.ref ln), some (.ref lr), y3, y4, y5] Hc (.str a) := fun e => ev_op (ev_var rfl) ev_c (rv_ixL (sq_of (e _ _ hln)) (atI_nat (j := 0) rfl))
  refine q_appNL (el_pathS (p := [a]) rfl (fun _ e => ix (e1.trans e)) (fun _ e => ix (e1.trans e)) (nd.ex e1) hn1 na na pathS_self) (fun _ => ev_c) (by show 1 < 100000; decide) fun H2 e2 => ?_
  have e12 := e1.trans e2
  have s1n : ∀ y ∈ [a], isNameS y = true := fun y hy => by rw [List.mem_singleton.mp hy]; exact na
  have sh : SeqAt.shaped (.list (([a] : List Str).map PyData.str)) = true := strs_shaped s1n
  have sl := el_sl (K := K) (te := tVar 1) (tl := tNoPart) (th := tPart (tC (V.int 1))) (σ := [some (.ref x), some (.ref ln), some (.ref lr), y3, y4, y5]) (H := H2) (ev_var rfl) eo_none (eo_some ev_c) (sq_of (e12 _ _ hln))
  rw [List.map_cons, cut_one] at sl
  have so : srtP ps = prs g := prs_srt ok dis hm
  have srt := evd_sortP (te := tVar 2) (σ := [some (.ref x), some (.ref ln), some (.ref lr), y3, y4, y5]) (evd_var rfl (Dt.ex e12 hps))
  rw [so] at srt
  have pn : ∀ q ∈ prs g, isNameS q.1 = true ∧ isNameS q.2 = true := fun q hq => psn q (by rw [← so] at hq; exact (srtP_perm ps).mem_iff.mp hq)
  refine s_ret (ev_is (ev_andV (a := true) (b := true) (ev_is (ev_eqD (evd_ofLD (el_pathS (p := [a]) rfl (fun _ e => ix (e12.trans e)) (fun _ e => ix (e12.trans e)) (nd.ex e12) hn1 na na pathS_self) fun _ => dts_strs [a]) (evd_ofLD (xs := ([a] : List Str).map V.str) sl fun _ => dts_strs [a]) sh sh) (congrArg V.bl (SeqAt.eqv_refl _ (lay_strs s1n).1))) fun _ => ev_is (ev_eqD (evd_pairs rfl (nd.ex e12)) srt (prs_shaped pn) (prs_shaped pn)) (congrArg V.bl (SeqAt.eqv_refl _ (by rw [PyData.canLay0, prs_lay pn])))) rfl) fun H3 e3 => q H3 (e12.trans e3)
end
end Cr
/-! graphs of needs, read while their dict is walked -/
namespace Cr
open PySem PySem.Spec PyProof.Rows L2 Evl
structure NdR (C : Addr) (H : Hp) (x : Addr) (A : NdA) (U : List Str) (g : List Row) : Prop where
  ob : H x = some (.ins C A.dx [("needed", .ref A.dd)])
  di : Rd H A.dd (.dK (g.map kvR))
  ls : ∀ r ∈ g, H r.a = some (.lst (r.ts.map V.str))
  ok : GOk U g
section
variable {C : Addr} {H H' : Hp} {x : Addr} {A : NdA} {U : List Str} {g : List Row}
theorem NdAt.r (h : NdAt C H x A U g) : NdR C H x A U g := ⟨h.ob, .inl h.di, h.ls, h.ok⟩
theorem NdR.ex (h : NdR C H x A U g) (e : Ex H H') : NdR C H' x A U g := ⟨e _ _ h.ob, ex_rd e h.di, fun r hr => e _ _ (h.ls r hr), h.ok⟩
theorem NdR.tg (h : NdR C H x A U g) {s : Str} {r : Row} (hr : rowOf g s = some r) : H r.a = some (.lst ((tgS g s).map V.str)) := by
  have e : tgS g s = r.ts := by unfold tgS; rw [hr]
  rw [e]
  exact h.ls r (rowOf_mem hr).1
end
def spTargR (C : Addr) : Sp := fun vs H Q _ => ∃ x v d A U g, vs = [.ref x, v] ∧ NdR C H x A U g ∧ Dt H v d ∧ sm d = true ∧ ∀ l H', H l = none → Ex H H' → H' l = some (.lst ((tgD g d).map V.str)) → Q (.ref l) H'
def spNeedR (C : Addr) : Sp := fun vs H Q _ => ∃ x v u d e A U g, vs = [.ref x, v, u] ∧ NdR C H x A U g ∧ Dt H v d ∧ Dt H u e ∧ sm d = true ∧ sm e = true ∧ ∀ H', Ex H H' → Q (.bl (isNd g d e)) H'
section
variable {H : Hp} {C x : Addr}
theorem spl_targR {A : NdA} {U : List Str} {g : List Row} {v : V} {d : PyData} (h : NdR C H x A U g) (hd : Dt H v d) (hs : sm d = true) : SpL (spTargR C) [.ref x, v] H ((tgD g d).map V.str) := fun H1 e Q q E => ⟨x, v, d, A, U, g, rfl, h.ex e, Dt.ex e hd, hs, q⟩
theorem spv_needR {A : NdA} {U : List Str} {g : List Row} {v u : V} {d e : PyData} (h : NdR C H x A U g) (hd : Dt H v d) (he : Dt H u e) (hs : sm d = true) (hs2 : sm e = true) : SpV (spNeedR C) [.ref x, v, u] H (.bl (isNd g d e)) := fun H1 e1 Q q E => ⟨x, v, u, d, e, A, U, g, rfl, h.ex e1, Dt.ex e1 hd, Dt.ex e1 he, hs, hs2, q⟩
end
section
variable {P : Program} {w : World} {K : PySem.W.Frag} {mg : Str → Option Value} {base : Heap}
theorem ok_targR {f C : Addr} {fd : FuncData} {k : Nat} (F : Fun K "targets" "Needs.targets" sNTarg f fd) (B : Blt mg) (T : NdC K mg C) (h1 : HasO P w K mg base k "is_name" ["value"] (spD isName)) : FnOk P w K mg base CX0 (k + 1) f fd ["self", "name"] (spTargR C) := by
  obtain ⟨f1, d1, G1, b1, k1, g1⟩ := h1.ex
  refine F.ok scNTarg (fun vs H Q E h => by obtain ⟨_, _, _, _, _, _, rfl, _⟩ := h; rfl) (fun cdv A outer s H vs Q E hr h => ?_)
  obtain ⟨x, v, d, A', U, g, rfl, nd, hd, hs, q⟩ := h
  have hu := hu_of hr
  refine ⟨_, pss_one (ps_ret (pe_ifExp (pt_val (pe_call (E := E0) G1 hr (by rfl) g1 k1 b1 .nil pass0 (pa_cons (pv 1) pa_nil))) (pe_callTy call_list_of (by rfl) B.list bList (pa_cons (pe_dget2 hu (pe_fld (pv 0) rfl) (pv 1) (pe_tup pa_nil) ⟨rfl, rfl, rfl, rfl⟩) pa_nil)) (pe_lst pa_nil))), ?_⟩
  refine s_retL (el_if (b := isName d) (et_B (ev_call (ea_cons (ev_var rfl) ea_nil) (spv_D hd hs))) (fun hn => fun H1 e Q' q' => ?_) (fun hn => ?_)) q
  · cases d with
    | str s0 =>
      cases hd with
      | str =>
      refine ⟨.ref x, rfl, x, C, A'.dx, _, .ref A'.dd, rfl, e _ _ nd.ob, T.cl, T.nN, rfl, A'.dd, rfl, .inl ⟨_, ex_rd e nd.di⟩, .str s0, rfl, by show 0 ≤ sizeLine; decide, fun t zt => ?_⟩
      have e1 : Ex H (upd H1 t (.tup [])) := e.trans (Ex.new zt)
      refine ⟨_, .inl ⟨_, Sum.inr s0, ex_rd e1 nd.di, rfl, rfl⟩, ?_⟩
      rw [val_row]
      cases hr : rowOf g s0 with
      | none =>
        refine ⟨t, [], rfl, .inr (st_of upd_same), fun l zl => q' l _ (fresh_back (Ex.new zt) zl) ((Ex.new zt).trans (Ex.new zl)) ?_⟩
        have e0 : tgD g (.str s0) = [] := by show tgS g s0 = []; unfold tgS; rw [hr]
        rw [e0]
        exact upd_same
      | some r => exact ⟨r.a, (tgS g s0).map V.str, rfl, .inl (sq_of (e1 _ _ (nd.tg hr))), fun l zl => q' l _ (fresh_back (Ex.new zt) zl) ((Ex.new zt).trans (Ex.new zl)) upd_same⟩
    | _ => exact nomatch hn
  · rw [tg_other nd.ok hn]
    exact el_lst ea_nil (by decide)
theorem ok_needR {f C : Addr} {fd : FuncData} {k : Nat} (F : Fun K "is_need" "Needs.is_need" sNIs f fd) (T : NdC K mg C) (h1 : HasO P w K mg base k "is_name" ["value"] (spD isName)) (h2 : HasM P w K mg base CX0 k C "targets" ["self", "name"] (spTargR C)) : FnOk P w K mg base CX0 (k + 1) f fd ["self", "source", "target"] (spNeedR C) := by
  obtain ⟨f1, d1, G1, b1, k1, g1⟩ := h1.ex
  obtain ⟨f2, d2, G2, b2, m2⟩ := h2.ex
  refine F.ok scNIs (fun vs H Q E h => by obtain ⟨_, _, _, _, _, _, _, _, rfl, _⟩ := h; rfl) (fun cdv A outer s H vs Q E hr h => ?_)
  obtain ⟨x, v, u, d, e, A', U, g, rfl, nd, hd, he, hs, hs2, q⟩ := h
  refine ⟨_, pss_one (ps_ret (pe_and (pe_call (E := E0) G1 hr (by rfl) g1 k1 b1 .nil pass0 (pa_cons (pv 2) pa_nil)) (pe_one (pe_cmpR op_in_seq (pv 2) (pe_meth (E := E0) (pv 0) T.cl m2 G2 hr b2 .nil pass0 (pa_cons (pv 1) pa_nil)) (by rfl))))), ?_⟩
  refine s_ret (ev_is (ev_andV (b := isNd g d e) (ev_call (ea_cons (ev_var rfl) ea_nil) (spv_D he hs2)) fun hn => ?_) ?_) q
  · cases e with
    | str t =>
      cases he with
      | str =>
      refine ev_is (ev_opL (ev_var rfl) (el_meth (ev_var rfl) nd.ob rfl (ea_cons (ev_var rfl) ea_nil) (spl_targR nd hd hs)) fun p H1 hp _ => rv_isL (sq_of hp) rfl (flat_strs _)) ?_
      show V.bl (inV (.str t) ((tgD g d).map V.str)) = V.bl (decide (t ∈ tgD g d))
      congr 1
      exact (Bool.eq_iff_iff).mpr (inV_mem.trans (decide_eq_true_iff (p := t ∈ tgD g d)).symm)
    | _ => exact nomatch hn
  · congr 1
    cases hn : isName e with
    | true => rfl
    | false =>
      rw [Bool.false_and]
      cases e with
      | str t =>
        show false = decide (t ∈ tgD g d)
        refine (decide_eq_false fun m => ?_).symm
        cases d with
        | str s0 =>
          have z := (nd.ok.name m).2
          have hn' : isNameS t = false := hn
          rw [hn'] at z
          cases z
        | _ => exact nomatch m
      | _ => rfl
end
end Cr
/-! graphs of needs: the shortest paths from a name -/
namespace Cr
open PySem PySem.Spec PyProof.Rows L2 Evl
def spShortR (C : Addr) : Sp := fun vs H Q _ => ∃ x a A U g, vs = [.ref x, .str a] ∧ NdR C H x A U g ∧ isNameS a = true ∧ ∀ l rs H', H l = none → Ex H H' → H' l = some (.lst (rs.map V.ref)) → PA H' rs (pathsP (tgS g) a) → (∀ r ∈ rs, r ≠ l ∧ H r = none) → Q (.ref l) H'
section
variable {P : Program} {w : World} {K : PySem.W.Frag} {mg : Str → Option Value} {base : Heap}
theorem ok_shortR {f C : Addr} {fd : FuncData} {k : Nat} (F : Fun K "shortest_paths" "Needs.shortest_paths" sNSh f fd) (B : Blt mg) (T : NdC K mg C) (h1 : HasO P w K mg base k "bare_word" ["word"] spBareW) (h2 : HasM P w K mg base CX0 k C "targets" ["self", "name"] (spTargR C)) : FnOk P w K mg base CX0 (k + 1) f fd ["self", "name"] (spShortR C) := by
  obtain ⟨f1, d1, G1, b1, k1, g1⟩ := h1.ex
  obtain ⟨f2, d2, G2, b2, m2⟩ := h2.ex
  refine F.ok scNSh (fun vs H Q E h => by obtain ⟨_, _, _, _, _, rfl, _⟩ := h; rfl) (fun cdv A outer s H vs Q E hr h => ?_)
  obtain ⟨x, a, A', U, g, rfl, nd, na, q⟩ := h
  have hu := hu_of hr
  refine ⟨_, pss_cons (ps_set (i := 2) scNSh.nd rfl (.inl rfl) (pe_lst pa_nil))
    (pss_cons (ps_set (i := 3) scNSh.nd rfl (.inl rfl) (pe_disp (pps_cons (pv 1) pe_bl pps_nil) rfl rfl (by simp) (by decide)))
    (pss_cons (ps_set (i := 4) scNSh.nd rfl (.inl rfl) (pe_lst (pa_cons (pe_lst (pa_cons (pe_call (E := E0) G1 hr (by rfl) g1 k1 b1 .nil pass0 (pa_cons (pv 1) pa_nil)) pa_nil)) pa_nil)))
    (pss_cut (ps_while PassesOwn.never (pt_cmpR op_gt (pe_callB call_len_seq (by rfl) B.len bLen (pa_cons (pv 4) pa_nil)) pe_int (nomark _))
      (pss_cons (ps_aug (i := 2) scNSh.nd rfl (.inl rfl) (pv 4) iop_ext)
      (pss_cons (ps_set (i := 5) scNSh.nd rfl (.inl rfl) (pe_lst pa_nil))
      (pss_cut (ps_for PassesOwn.never rfl (pi_list (pv 4)) (pg_name (i := 6) scNSh.nd rfl (.inl rfl))
        (pss_one (ps_for PassesOwn.never rfl (pi_list (pe_meth (E := E0) (pv 0) T.cl m2 G2 hr b2 .nil pass0 (pa_cons (pe_ix ix_list (pv 6) (pe_un un_neg pe_int) (fun _ _ => rfl)) pa_nil))) (pg_name (i := 7) scNSh.nd rfl (.inl rfl))
          (pss_one (ps_if (pt_cmp (pc_dnotin hu (pv 7) (pv 3)))
            (pss_cons (ps_dput hu (pv 3) (pv 7) pe_bl rfl)
            (pss_one (ps_expr (pe_bm PySem.F.plainAttrs_list PySem.F.slot_list_append PySem.F.type_list_append mt_append (pv 5) (pa_cons (pe_op op_cat (pv 6) (pe_lst (pa_cons (pv 7) pa_nil))) pa_nil))))) pss_nil)))))
      (pss_one (ps_set (i := 4) scNSh.nd rfl (.inl rfl) (pv 5)))))))
    (pss_one (ps_ret (pv 2)))))), ?_⟩
  have hT : ∀ s t, t ∈ tgS g s → t ∈ U := fun s t m => (nd.ok.tgU m).2
  have few := fun i => run_few (a := a) hT nd.ok.uf i
  have la1 : a.length ≤ 1000 := by
    have := sm_name na
    rw [sm] at this
    exact of_decide_eq_true this
  refine ⟨by show 0 ≤ sizeLine; decide, fun f zf => ?_⟩
  refine fun dr zd => ⟨.str a, rfl, upd_same, [kT a], rfl, by show 1 ≤ 15; decide, ?_⟩
  refine ⟨.str a, rfl, a, rfl, la1, fun H1 e1 => ⟨by show 1 ≤ sizeLine; decide, fun r0 zr => ⟨by show 1 ≤ sizeLine; decide, fun la zl => ?_⟩⟩⟩
  dsimp only
  have ndf : dr ≠ f := fun e => by rw [e, upd_same] at zd; cases zd
  have zd0 : H dr = none := by rw [upd_ne ndf] at zd; exact zd
  have hf1 : H1 f = some (.lst []) := e1 _ _ (by rw [upd_ne ndf.symm, upd_ne ndf.symm, upd_same])
  have hd1 : H1 dr = some (.dK [kT a]) := e1 _ _ upd_same
  have x1 : Ex H H1 := fun c o hc => e1 _ _ (by rw [upd_ne (ne_of_none hc zd0), upd_ne (ne_of_none hc zd0), upd_ne (ne_of_none hc zf)]; exact hc)
  have e2 : Ex H1 (upd H1 r0 (.lst [.str a])) := Ex.new zr
  have e3 : Ex (upd H1 r0 (.lst [.str a])) (upd (upd H1 r0 (.lst [.str a])) la (.lst [.ref r0])) := Ex.new zl
  have x3 := (x1.trans e2).trans e3
  have B0 : Bf H (upd (upd H1 r0 (.lst [.str a])) la (.lst [.ref r0])) f dr la [] [r0] (runP (tgS g) a 0) := by
    have nl : f ≠ la := ne_of_none (e2 _ _ hf1) zl
    have rl : r0 ≠ la := ne_of_none upd_same zl
    refine ⟨x3, e3 _ _ (e2 _ _ hf1), e3 _ _ (e2 _ _ hd1), upd_same, ?_, zf, zd0, fresh_back (x1.trans e2) zl, nl, fun r hr => ?_⟩
    · exact PA.nil.push (by rw [upd_ne rl]; exact upd_same)
    · rw [List.mem_singleton.mp hr]
      exact ⟨(ne_of_none hf1 zr).symm, rl, fresh_back x1 zr⟩
  generalize upd (upd H1 r0 (.lst [.str a])) la (.lst [.ref r0]) = H3 at B0
  have nm : ∀ {i : Nat} {p : List Str}, p ∈ runP (tgS g) a i → isNameS (lastP p) = true := fun hp => by
    cases run_reach (List.mem_map_of_mem hp) with
    | refl => exact na
    | step _ m => exact nd.ok.un _ (hT _ _ m)
  show tCut _ _ _ [some (.ref x), some (.str a), some (.ref f), some (.ref dr), some (.ref la), none, none, none] H3
  refine q_cut (M := fun σ H' => ∃ la rs y5 y6 y7, σ = [some (.ref x), some (.str a), some (.ref f), some (.ref dr), some (.ref la), y5, y6, y7] ∧ Bf H H' f dr la rs [] (runP (tgS g) a rs.length)) ?_ ?_
  rotate_left
  · rintro σ H4 ⟨la4, rs, y5, y6, y7, rfl, b⟩
    have pa := b.pa
    rw [List.append_nil] at pa
    have ie := run_is (a := a) hT nd.ok.uf (i := rs.length) (by rw [← pa.len]; exact Nat.le_refl _)
    rw [ie] at pa
    exact ⟨.ref f, rfl, q f rs H4 b.zf b.fr b.hf pa fun r hr => ⟨(b.nr r (List.mem_append_left _ hr)).1, (b.nr r (List.mem_append_left _ hr)).2.2⟩⟩
  refine s_while (fun m σ H' => ∃ la rs ns y5 y6 y7, σ = [some (.ref x), some (.str a), some (.ref f), some (.ref dr), some (.ref la), y5, y6, y7] ∧ Bf H H' f dr la rs ns (runP (tgS g) a rs.length) ∧ m + rs.length = 64) 64 ⟨la, [], [r0], none, none, none, rfl, B0, rfl⟩ ?_
  rintro m σ H4 ⟨la4, rs, ns, y5, y6, y7, rfl, b, hm⟩
  refine ⟨decide ((0 : Int) < ((ns.map V.ref).length : Int)), et_test (ev_op (ev_cb (ea_cons (ev_var rfl) ea_nil) (rc_lenL (sq_of b.hl))) ev_c rv_I0), fun hb H5 e5 => ?_, fun hb H5 e5 => ?_⟩
  rotate_left
  · have hb' := of_decide_eq_false hb
    rw [List.length_map] at hb'
    have n0 : ns = [] := List.length_eq_zero_iff.mp (by omega)
    subst n0
    exact ⟨la4, rs, y5, y6, y7, rfl, b.ex e5⟩
  have hb' := of_decide_eq_true hb
  rw [List.length_map] at hb'
  have b5 := b.ex e5
  have qn : (rs ++ ns).length = (runP (tgS g) a rs.length).length := b.pa.len
  have lrn : (rs ++ ns).length = rs.length + ns.length := List.length_append
  have q63 := few rs.length
  refine ⟨fun σ' H' => ∃ la' ns' y5 y6 y7, σ' = [some (.ref x), some (.str a), some (.ref f), some (.ref dr), some (.ref la'), y5, y6, y7] ∧ Bf H H' f dr la' (rs ++ ns) ns' (runP (tgS g) a (rs ++ ns).length), fun σ2 H2 ⟨la', ns', y5, y6, y7, e1, b2⟩ => ⟨64 - (rs ++ ns).length, by omega, la', rs ++ ns, ns', y5, y6, y7, e1, b2, by omega⟩, ?_⟩
  refine ⟨.ref f, rfl, .ref la4, rfl, f, la4, rs.map V.ref, ns.map V.ref, rfl, rfl, b5.hf, b5.hl, by rw [List.length_map, List.length_map, sizeLine_eq]; omega, ?_⟩
  refine ⟨by show 0 ≤ sizeLine; decide, fun lg zg => ?_⟩
  have mp : rs.map V.ref ++ ns.map V.ref = (rs ++ ns).map V.ref := by rw [List.map_append]
  rw [mp] at zg ⊢
  have kp : ∀ {c : Addr} {o : HO}, c ≠ f → H5 c = some o → (upd (upd H5 f (.lst ((rs ++ ns).map V.ref))) lg (.lst [])) c = some o := fun {c o} n h => by
    have h' : (upd H5 f (.lst ((rs ++ ns).map V.ref))) c = some o := by rw [upd_ne n]; exact h
    rw [upd_ne (ne_of_none h' zg)]
    exact h'
  have ngf : f ≠ lg := ne_of_none (upd_same (H := H5)) zg
  have b6 : Bf H (upd (upd H5 f (.lst ((rs ++ ns).map V.ref))) lg (.lst [])) f dr lg (rs ++ ns) [] (runP (tgS g) a rs.length) := by
    refine ⟨fun c o hc => kp (ne_of_none hc b.zf) (b5.fr _ _ hc), by rw [upd_ne ngf, upd_same], kp b5.fd.symm b5.hd, upd_same, ?_, b.zf, b.zd, ?_, ngf, fun r hr => ?_⟩
    · rw [List.append_nil]
      exact b5.pa.keep fun r hr o ho => kp (b5.nr r hr).1 ho
    · cases hh : H lg with
      | none => rfl
      | some o =>
        have h' : (upd H5 f (.lst ((rs ++ ns).map V.ref))) lg = some o := by rw [upd_ne ngf.symm]; exact b5.fr _ _ hh
        rw [h'] at zg
        cases zg
    · rw [List.append_nil] at hr
      obtain ⟨h1, h2, h3⟩ := b5.nr r hr
      obtain ⟨k', hk', e'⟩ := List.mem_iff_getElem.mp hr
      have hk2 : k' < (runP (tgS g) a rs.length).length := by rw [← qn]; exact hk'
      have z := b5.pa.at_ k' r _ (by rw [List.getElem?_eq_getElem hk', e']) (List.getElem?_eq_getElem hk2)
      exact ⟨h1, ne_of_none (show (upd H5 f (.lst ((rs ++ ns).map V.ref))) r = _ by rw [upd_ne h1]; exact z) zg, h3⟩
  have hla6 := kp b5.nfl.symm b5.hl
  have nlg : la4 ≠ lg := ne_of_none (show (upd H5 f (.lst ((rs ++ ns).map V.ref))) la4 = _ by rw [upd_ne b5.nfl.symm]; exact b5.hl) zg
  generalize (upd (upd H5 f (.lst ((rs ++ ns).map V.ref))) lg (.lst [])) = H6 at b6 hla6
  show tCut _ _ _ [some (.ref x), some (.str a), some (.ref f), some (.ref dr), some (.ref la4), some (.ref lg), y6, y7] H6
  refine q_cut (M := fun σ H' => ∃ ns' y6 y7, σ = [some (.ref x), some (.str a), some (.ref f), some (.ref dr), some (.ref la4), some (.ref lg), y6, y7] ∧ Bf H H' f dr lg (rs ++ ns) ns' (runP (tgS g) a (rs ++ ns).length)) ?_ ?_
  rotate_left
  · rintro σ H7 ⟨ns', y6, y7, rfl, b7⟩
    exact ⟨.ref lg, rfl, lg, ns', _, _, _, rfl, b7⟩
  refine s_forL (a := la4) (xs := ns.map V.ref) (ev_var rfl) (sq_of hla6) (fun j σ' H' => ∃ ns' y6 y7, σ' = [some (.ref x), some (.str a), some (.ref f), some (.ref dr), some (.ref la4), some (.ref lg), y6, y7] ∧ Bf H H' f dr lg (rs ++ ns) ns' (runP (tgS g) a (rs.length + j)) ∧ H' la4 = some (.lst (ns.map V.ref)))
    (fun H7 e7 => ⟨[], y6, y7, rfl, b6.ex e7, e7 _ _ hla6⟩) (fun i σ' H' _ ⟨_, _, _, _, _, z⟩ => sq_of z) ?_ ?_
  rotate_left
  · rintro σ' H7 ⟨ns', y6, y7, rfl, b7, _⟩
    rw [List.length_map] at b7
    rw [← lrn] at b7
    exact ⟨ns', y6, y7, rfl, b7⟩
  rintro j v σ' H7 hj ⟨ns', y6', y7', rfl, b7, hla7⟩
  rw [List.getElem?_map] at hj
  obtain ⟨r, hr', rfl⟩ : ∃ r, ns[j]? = some r ∧ V.ref r = v := by
    cases hh : ns[j]? with
    | none => rw [hh] at hj; cases hj
    | some r => rw [hh] at hj; exact ⟨r, rfl, Option.some.inj hj⟩
  have jl : j < ns.length := by
    by_cases h : j < ns.length
    · exact h
    · rw [List.getElem?_eq_none (by omega)] at hr'; cases hr'
  have rat : ((rs ++ ns) ++ ns')[rs.length + j]? = some r := by
    rw [List.getElem?_append_left (by omega), List.getElem?_append_right (by omega), Nat.add_sub_cancel_left]
    exact hr'
  have q7 : rs.length + j < (runP (tgS g) a (rs.length + j)).length := by
    rw [← b7.pa.len, List.length_append]
    omega
  obtain ⟨p, hp⟩ : ∃ p, (runP (tgS g) a (rs.length + j))[rs.length + j]? = some p := ⟨_, List.getElem?_eq_getElem q7⟩
  have hr7 := b7.pa.at_ _ r p rat hp
  have pm := List.mem_of_getElem? hp
  have pne := run_ne pm
  have pna := nm pm
  have plen : p.length ≤ 64 := by
    have := run_len pm
    have := few (rs.length + j)
    omega
  have rmem : r ∈ (rs ++ ns) ++ ns' := List.mem_of_getElem? rat
  have nd7 := nd.ex b7.fr
  show tFor _ _ _ _ [some (.ref x), some (.str a), some (.ref f), some (.ref dr), some (.ref la4), some (.ref lg), some (.ref r), y7'] H7
  have il : Ev (tOp (rIxL K) (tVar 6) (tUn (rU fun i => V.int (-i)) (tC (V.int 1)))) [some (.ref x), some (.str a), some (.ref f), some (.ref dr), some (.ref la4), some (.ref lg), some (.ref r), y7'] H7 (.str (lastP p)) :=
    ev_op (ev_var rfl) (ev_un (z := .int (-1)) ev_c fun H1 e1 Q q => ⟨1, rfl, q H1 (Ex.refl H1)⟩) (rv_ixL (sq_of hr7) (by
      have := atI_last (p.dropLast.map V.str) (V.str (lastP p))
      have e : p.dropLast.map V.str ++ [V.str (lastP p)] = p.map V.str := by
        have := congrArg (List.map V.str) (lastP_split pne)
        rw [List.map_append] at this
        exact this
      rw [e] at this
      exact this))
  have tg : EvL (tMeth C "targets" (spTargR C) [] E0 (tVar 0) (tCons (tOp (rIxL K) (tVar 6) (tUn (rU fun i => V.int (-i)) (tC (V.int 1)))) tNil)) [some (.ref x), some (.str a), some (.ref f), some (.ref dr), some (.ref la4), some (.ref lg), some (.ref r), y7'] H7 ((tgS g (lastP p)).map V.str) := el_meth (ev_var rfl) nd7.ob rfl (ea_cons il ea_nil) (spl_targR nd7 (.str (lastP p)) (sm_name pna))
  refine s_forNL tg (fun l0 k' σ' H' => ∃ ns' y7, σ' = [some (.ref x), some (.str a), some (.ref f), some (.ref dr), some (.ref la4), some (.ref lg), some (.ref r), y7] ∧ Bf H H' f dr lg (rs ++ ns) ns' (ext ((tgS g (lastP p)).take k') p (runP (tgS g) a (rs.length + j))) ∧ H' la4 = some (.lst (ns.map V.ref)) ∧ H' l0 = some (.lst ((tgS g (lastP p)).map V.str)) ∧ H' r = some (.lst (p.map V.str)) ∧ l0 ≠ lg ∧ la4 ≠ lg ∧ r ≠ lg)
    (fun l0 H8 z8 e8 h8 => ⟨ns', y7', rfl, b7.ex e8, e8 _ _ hla7, h8, e8 _ _ hr7, (ne_of_none b7.hl z8).symm, nlg, (b7.nr r rmem).2.1⟩) (fun l0 i σ' H' _ ⟨_, _, _, _, _, z, _⟩ => sq_of z) ?_ ?_
  rotate_left
  · rintro l0 σ' H8 ⟨ns8, y7, rfl, b8, hla8, _⟩
    rw [List.length_map, List.take_length, ← run_some hp] at b8
    exact ⟨ns8, _, y7, rfl, b8, hla8⟩
  rintro l0 k' tv σ' H8 hk ⟨ns8, y7, rfl, b8, hla8, hl0, hr8, n1, n2, n3⟩
  rw [List.getElem?_map] at hk
  obtain ⟨t, ht, rfl⟩ : ∃ t, (tgS g (lastP p))[k']? = some t ∧ V.str t = tv := by
    cases hh : (tgS g (lastP p))[k']? with
    | none => rw [hh] at hk; cases hk
    | some r => rw [hh] at hk; exact ⟨r, rfl, Option.some.inj hk⟩
  show tIfS _ _ _ _ [some (.ref x), some (.str a), some (.ref f), some (.ref dr), some (.ref la4), some (.ref lg), some (.ref r), some (.str t)] H8
  refine ⟨.str t, rfl, .ref dr, rfl, dr, _, rfl, DGet.k (k := Sum.inr t) b8.hd, _, rfl, ?_⟩
  rw [kT_val]
  have ek := ext_take (p := p) (q := runP (tgS g) a (rs.length + j)) ht
  generalize eQ : ext ((tgS g (lastP p)).take k') p (runP (tgS g) a (rs.length + j)) = q8 at b8 ek ⊢
  have nod : ∀ {c : Addr} {ys : List V}, H8 c = some (.lst ys) → c ≠ dr := fun h e => by rw [e, b8.hd] at h; cases h
  by_cases mem : t ∈ lasts q8
  · rw [decide_eq_true mem]
    refine ⟨ns8, _, rfl, ?_, hla8, hl0, hr8, n1, n2, n3⟩
    rw [ek]
    unfold ext1
    rw [if_pos mem]
    exact b8
  · rw [decide_eq_false mem]
    have lq8 : (lasts q8).length ≤ 63 := by
      have : (lasts q8).length ≤ (a :: U).length := nodup_len (by rw [← eQ]; exact ext_nd (run_nd _)) fun b hb => by
        rw [← eQ] at hb
        obtain ⟨z, hz, rfl⟩ := List.mem_map.mp hb
        rcases ext_mem hz with hz | ⟨u, hu', rfl⟩
        · cases run_reach (List.mem_map_of_mem hz) with
          | refl => exact List.mem_cons_self
          | step _ m => exact List.mem_cons_of_mem _ (hT _ _ m)
        · rw [lastP_app]
          exact List.mem_cons_of_mem _ (hT _ _ (List.mem_of_mem_take hu'))
      have uf := nd.ok.uf
      rw [List.length_cons] at this
      omega
    refine ⟨.ref dr, rfl, .str t, rfl, dr, _, rfl, DPut.k (k := Sum.inr t) b8.hd (by rw [List.length_map, sizeLine_eq]; omega), ?_⟩
    rw [kT_put mem]
    have k9 : ∀ {c : Addr} {ys : List V}, H8 c = some (.lst ys) → (upd H8 dr (.dK ((lasts q8 ++ [t]).map kT))) c = some (.lst ys) := fun h => by rw [upd_ne (nod h)]; exact h
    refine ⟨.ref lg, rfl, .inl ⟨rfl, _, sq_of (k9 b8.hl)⟩, .ref r, rfl, .str t, rfl, by show 1 ≤ sizeLine; decide, fun M zM => ?_⟩
    have eM := Ex.new (o := .lst [.str t]) zM
    refine ⟨r, M, p.map V.str, [.str t], rfl, rfl, eM _ _ (k9 hr8), upd_same, by rw [List.length_map, sizeLine_eq]; show p.length + 1 ≤ _; omega, fun Z zZ => ?_⟩
    have eZ := Ex.new (o := .lst (p.map V.str ++ [.str t])) zZ
    have nsl : ns8.length ≤ 63 := by
      have l8 := b8.pa.len
      unfold lasts at lq8
      rw [List.length_map] at lq8
      rw [List.length_append] at l8
      omega
    refine ⟨lg, ns8.map V.ref, .ref Z, rfl, rfl, eZ _ _ (eM _ _ (k9 b8.hl)), sz_lt (by rw [List.length_map]; omega), ?_⟩
    have b9 := b8.push (p := p) (t := t) (Z := Z) rfl (eM.trans eZ) (fresh_back eM zZ) (by rw [upd_same, List.map_append]; rfl)
    have mz : (ns8 ++ [Z]).map V.ref = ns8.map V.ref ++ [.ref Z] := by rw [List.map_append]; rfl
    rw [mz] at b9
    have k10 : ∀ {c : Addr} {ys : List V}, c ≠ lg → H8 c = some (.lst ys) → (upd (upd (upd (upd H8 dr (.dK ((lasts q8 ++ [t]).map kT))) M (.lst [.str t])) Z (.lst (p.map V.str ++ [.str t]))) lg (.lst (ns8.map V.ref ++ [.ref Z]))) c = some (.lst ys) := fun n h => by rw [upd_ne n]; exact eZ _ _ (eM _ _ (k9 h))
    refine ⟨ns8 ++ [Z], _, rfl, ?_, k10 n2 hla8, k10 n1 hl0, k10 n3 hr8, n1, n2, n3⟩
    rw [ek]
    unfold ext1
    rw [if_neg mem]
    exact b9
end
end Cr
namespace Cr
open PySem
theorem name_strB {d : PyData} (h : isName d = true) : ∃ a, d = .str a ∧ isNameS a = true := by
  cases d with
  | str a => exact ⟨a, rfl, h⟩
  | _ => cases h
theorem find_atB {α : Type} {f : α → Bool} : ∀ {l : List α} {j : Nat} {p : α}, l[j]? = some p → f p = true → (∀ k q, k < j → l[k]? = some q → f q = false) → l.find? f = some p
  | a :: r, 0, p, h, hf, _ => by cases h; rw [List.find?_cons, hf]
  | a :: r, j + 1, p, h, hf, hn => by
    rw [List.find?_cons, hn 0 a (by omega) rfl]
    exact find_atB (l := r) h hf fun k q hk hq => hn (k + 1) q (by omega) hq
end Cr
/-! graphs of needs: cycles -/
namespace Cr
open PySem PySem.Spec PyProof.Rows L2 Evl
abbrev sNCyc : Stmt := inClass (topS 11) 18
abbrev sNAcy : Stmt := inClass (topS 11) 19
theorem scNCyc : FnScope ["self", "name", "path"] ["self", "name"] (defScope sNCyc) := ⟨rfl, rfl, rfl, by decide +kernel, rfl, by decide +kernel, by decide +kernel⟩
theorem scNAcy : FnScope ["self", "source"] ["self"] (defScope sNAcy) := ⟨rfl, rfl, rfl, by decide +kernel, rfl, by decide +kernel, by decide +kernel⟩
def cycS (g : List Row) (a : Str) : Option (List Str) := (pathsP (tgS g) a).find? fun p => decide (a ∈ tgS g (lastP p))
def spCycR (C CN : Addr) (n : Nat) : Sp := fun vs H Q E => ∃ x v d A U g, vs = [.ref x, v] ∧ NdR C H x A U g ∧ Dt H v d ∧ sm d = true ∧ cpyTo n d ∧ (isName d = false → ∀ dx H', Rsd1 H H' dx "value" d → E (.ref CN) (some dx) H') ∧
  (∀ a, d = .str a → isNameS a = true → (cycS g a = none → ∀ H', Ex H H' → Q .non H') ∧ (∀ p, cycS g a = some p → ∀ r H', H r = none → Ex H H' → H' r = some (.lst (p.map V.str)) → Q (.ref r) H'))
def spAcy (C : Addr) : Sp := fun vs H Q _ => ∃ x A U g, vs = [.ref x] ∧ NdAt C H x A U g ∧ ∀ H', Ex H H' → Q (.bl (g.all fun r => (cycS g r.s).isNone)) H'
section
variable {P : Program} {w : World} {K : PySem.W.Frag} {mg : Str → Option Value} {base : Heap}
theorem ok_cycR {f C CN : Addr} {fd : FuncData} {k n : Nat} (F : Fun K "cycle_through" "Needs.cycle_through" sNCyc f fd) (B : Blt mg) (T : NdC K mg C) (h0 : HasE P w K mg base k "check_name" ["value"] (spCheckN CN n)) (h1 : HasM P w K mg base CX0 k C "shortest_paths" ["self", "name"] (spShortR C)) (h2 : HasM P w K mg base CX0 k C "is_need" ["self", "source", "target"] (spNeedR C)) : FnOk P w K mg base (L2.CX P w) (k + 1) f fd ["self", "name"] (spCycR C CN n) := by
  obtain ⟨f0, d0, G0, b0, k0, g0⟩ := h0.ex
  obtain ⟨f1, d1, G1, b1, m1⟩ := h1.ex
  obtain ⟨f2, d2, G2, b2, m2⟩ := h2.ex
  refine F.okX scNCyc (fun vs H Q E h => by obtain ⟨_, _, _, _, _, _, rfl, _⟩ := h; rfl) (fun cdv A outer s H vs Q E hr h => ?_)
  obtain ⟨x, v, d, A', U, g, rfl, nd, hd, hs, hc, q1, q3⟩ := h
  refine ⟨_, pss_cons (ps_expr (pe_call (E := E) G0 hr (by rfl) g0 k0 b0 .nil (passes_call (takes_of rfl rfl rfl rfl) fun _ _ _ _ h => h) (pa_cons (pv 1) pa_nil)))
    (pss_cut (ps_for (passes_of rfl) rfl (pi_list (pe_meth (E := E0) (pv 0) T.cl m1 G1 hr b1 .nil pass0 (pa_cons (pv 1) pa_nil))) (pg_name (i := 2) scNCyc.nd rfl (.inl rfl))
      (pss_one (ps_if (pt_val (pe_meth (E := E0) (pv 0) T.cl m2 G2 hr b2 .nil pass0 (pa_cons (pe_ix ix_list (pv 2) (pe_un un_neg pe_int) (fun _ _ => rfl)) (pa_cons (pv 1) pa_nil)))) (pss_one (ps_ret (pv 2))) pss_nil)))
    (pss_one (ps_ret pe_non))), ?_⟩
  refine ⟨v, rfl, v, d, rfl, hd, hs, hc, fun n1 H1 e1 => ?_, q1⟩
  obtain ⟨a, rfl, na⟩ := name_strB n1
  cases hd with
  | str =>
  have nd1 := nd.ex e1
  obtain ⟨qn, qs⟩ := q3 a rfl na
  clear q3
  unfold cycS at qn qs
  have pne0 : ∀ p ∈ pathsP (tgS g) a, p ≠ [] ∧ isNameS (lastP p) = true := fun p hp => by
    refine ⟨run_ne hp, ?_⟩
    have rr := run_reach (T := tgS g) (a := a) (List.mem_map_of_mem (f := lastP) hp)
    cases rr with
    | refl => exact na
    | step _ m => exact (nd.ok.name m).2
  refine q_cut (M := fun σ H' => ∃ y3, σ = [some (.ref x), some (.str a), y3] ∧ Ex H H' ∧ (pathsP (tgS g) a).find? (fun p => decide (a ∈ tgS g (lastP p))) = none) ?_ ?_
  rotate_left
  · rintro σ H3 ⟨y3, rfl, e3, hn⟩
    exact qn hn H3 e3
  refine ⟨.ref x, rfl, x, A'.dx, _, rfl, nd1.ob, rfl, .str a, rfl, x, a, A', U, g, rfl, nd1, na, fun l rs H3 zl e3 hl pa nr => ?_⟩
  generalize pathsP (tgS g) a = PP at pne0 qn qs pa ⊢
  have lr := pa.len
  have e13 := e1.trans e3
  refine ⟨l, rfl, ⟨_, sq_of hl⟩, for_list (xs := rs.map V.ref) (fun j σ' H' => ∃ y3, σ' = [some (.ref x), some (.str a), y3] ∧ Ex H3 H' ∧ ∀ k p, k < j → PP[k]? = some p → a ∉ tgS g (lastP p)) ⟨none, rfl, Ex.refl _, fun k p hk => absurd hk (Nat.not_lt_zero _)⟩ (fun j σ' H' _ ⟨_, _, z, _⟩ => sq_of (z _ _ hl)) ?_ ?_⟩
  · rintro j y σ' H4 hj ⟨y3, rfl, e4, hno⟩
    rw [List.getElem?_map] at hj
    obtain ⟨r, hr', rfl⟩ : ∃ r, rs[j]? = some r ∧ V.ref r = y := by
      cases hh : rs[j]? with
      | none => rw [hh] at hj; cases hj
      | some r => rw [hh] at hj; exact ⟨r, rfl, Option.some.inj hj⟩
    have il : j < PP.length := by
      rw [← lr]
      exact (List.getElem?_eq_some_iff.mp hr').1
    obtain ⟨p, hp⟩ : ∃ p, PP[j]? = some p := ⟨_, List.getElem?_eq_getElem il⟩
    obtain ⟨pne, pnm⟩ := pne0 p (List.mem_of_getElem? hp)
    have hr4 := e4 _ _ (pa.at_ j r p hr' hp)
    have il : Ev (tOp (rIxL K) (tVar 2) (tUn (rU fun i => V.int (-i)) (tC (V.int 1)))) [some (.ref x), some (.str a), some (.ref r)] H4 (.str (lastP p)) :=
      ev_op (ev_var rfl) (ev_un (z := .int (-1)) ev_c fun H1 e1 Q q => ⟨1, rfl, q H1 (Ex.refl H1)⟩) (rv_ixL (sq_of hr4) (by
        have := atI_last (p.dropLast.map V.str) (V.str (lastP p))
        have e : p.dropLast.map V.str ++ [V.str (lastP p)] = p.map V.str := by
          have := congrArg (List.map V.str) (lastP_split pne)
          rw [List.map_append] at this
          exact this
        rw [e] at this
        exact this))
    have nd4 := nd1.ex (e3.trans e4)
    show tIfS _ _ _ _ [some (.ref x), some (.str a), some (.ref r)] H4
    refine s_when (b := isNd g (.str (lastP p)) (.str a)) (et_B (ev_meth (ev_var rfl) nd4.ob rfl (ea_cons il (ea_cons (ev_var rfl) ea_nil)) (spv_needR nd4 (.str _) (.str a) (sm_name pnm) (sm_name na)))) (fun hb H5 e5 => ?_) (fun hb H5 e5 => ?_)
    · have eb : a ∈ tgS g (lastP p) := of_decide_eq_true hb
      refine s_ret (ev_var rfl) fun H6 e6 => ?_
      exact qs p (find_atB hp (decide_eq_true eb) fun k q hk hq => decide_eq_false (hno k q hk hq)) r H6 (fresh_back e1 (nr r (List.mem_of_getElem? hr')).2) (((e13.trans e4).trans e5).trans e6) (e6 _ _ (e5 _ _ hr4))
    · refine ⟨_, rfl, e4.trans e5, fun k p' hk hp' => ?_⟩
      by_cases ek : k = j
      · rw [ek, hp] at hp'
        cases hp'
        exact of_decide_eq_false hb
      · exact hno k p' (by omega) hp'
  · rintro σ' H4 ⟨y3, rfl, e4, hno⟩
    refine ⟨y3, rfl, e13.trans e4, List.find?_eq_none.mpr fun p hp => ?_⟩
    obtain ⟨k, hk, e⟩ := List.mem_iff_getElem.mp hp
    intro z
    refine hno k p (by rw [List.length_map, lr]; exact hk) (by rw [List.getElem?_eq_getElem hk, e]) (of_decide_eq_true z)
end
end Cr
/-! the group of a name -/
namespace Cr
open PySem PySem.Spec PyProof.Rows L2 Evl
abbrev sNGrp : Stmt := inClass (topS 11) 16
abbrev nNGrp : List Str := ["self", "name", "other"]
theorem scNGrp : FnScope nNGrp ["self", "name"] (defScope sNGrp) := ⟨rfl, rfl, rfl, by decide +kernel, rfl, by decide +kernel, by decide +kernel⟩
def grpS (g : List Row) (a : Str) : List Str := (cloS g a).filter fun o => decide (a ∈ cloS g o)
theorem clo_lt {g : List Row} {a : Str} : (cloS g a).Pairwise ltS := srtS_lt (run_nd 64)
def spGrp (C CN : Addr) (n : Nat) : Sp := fun vs H Q E => ∃ x v d A U g, vs = [.ref x, v] ∧ NdAt C H x A U g ∧ Dt H v d ∧ sm d = true ∧ cpyTo n d ∧ (isName d = false → ∀ dx H', Rsd1 H H' dx "value" d → E (.ref CN) (some dx) H') ∧
  (∀ a, d = .str a → isNameS a = true → ∀ l H', H l = none → Ex H H' → H' l = some (.lst ((grpS g a).map V.str)) → Q (.ref l) H')
section
variable {P : Program} {w : World} {K : PySem.W.Frag} {mg : Str → Option Value} {base : Heap}
theorem ok_grp {f C CN : Addr} {fd : FuncData} {k n : Nat} (F : Fun K "group" "Needs.group" sNGrp f fd) (T : NdC K mg C) (hn : 1 ≤ n) (h0 : HasM P w K mg base (L2.CX P w) k C "closure" ["self", "name"] (spClo C CN n)) (h1 : HasM P w K mg base (L2.CX P w) k C "depends" ["self", "one", "other"] (spDep C CN n)) : FnOk P w K mg base (L2.CX P w) (k + 1) f fd ["self", "name"] (spGrp C CN n) := by
  obtain ⟨f0, d0, G0, b0, m0⟩ := h0.ex
  obtain ⟨f1, d1, G1, b1, m1⟩ := h1.ex
  refine F.okX scNGrp (fun vs H Q E h => by obtain ⟨_, _, _, _, _, _, rfl, _⟩ := h; rfl) (fun cdv A outer s H vs Q E hr h => ?_)
  obtain ⟨x, v, d, A', U, g, rfl, nd, hd, hs, hc, no, yes⟩ := h
  refine ⟨_, pss_one (ps_ret (pe_lc (own := [("other", 2)]) (g := gName 2) (tt := tB (tMeth C "depends" (spDep C CN n) [] E0 (tVar 0) (tCons (tVar 2) (tCons (tVar 1) tNil)))) (te := tVar 2) rfl scNGrp.nd (pi_list (pe_meth (E := E) (pv 0) T.cl m0 G0 hr b0 .nil (passes_call (takes_of rfl rfl rfl rfl) fun _ _ _ _ h => h) (pa_cons (pv 1) pa_nil))) (blkOk_by (own := [("other", 2)]) (N := nNGrp) (sc := defScope sNGrp) (by decide +kernel))
    (fun _ _ _ _ _ => pg_name (i := 2) scNGrp.nd rfl (Or.inl rfl)) (fun _ _ _ _ _ => by exact pts_one (pt_val (pe_meth (E := E0) (pv 0) T.cl m1 G1 hr b1 .nil passL (pa_cons (pv 2) (pa_cons (pv 1) pa_nil))))) (fun _ _ _ _ _ => pv 2))), ?_⟩
  cases hd' : isName d with
  | false => exact ⟨.ref x, rfl, x, A'.dx, _, rfl, nd.ob, rfl, v, rfl, x, v, d, A', U, g, rfl, nd, hd, hs, hc, no, fun a ea na => (by rw [ea, show isName (.str a) = true from na] at hd'; cases hd')⟩
  | true =>
    obtain ⟨a, rfl, na⟩ := name_str hd'
    cases dt_str hd
    have cl : EvL (tMeth C "closure" (spClo C CN n) [] E (tVar 0) (tCons (tVar 1) tNil)) [some (.ref x), some (.str a), none] H ((cloS g a).map V.str) := el_clo rfl (fun _ _ => ev_var rfl) nd hn na
    have cn := clo_names nd.ok na
    have lc := el_lcNL (K := K) (σ := [some (.ref x), some (.str a), none]) (H := H) (j := 2) (vs := [2]) (t := tB (tMeth C "depends" (spDep C CN n) [] E0 (tVar 0) (tCons (tVar 2) (tCons (tVar 1) tNil)))) (te := tVar 2) (fun i => decide (a ∈ cloS g ((cloS g a).getD i ""))) (fun i => V.str ((cloS g a).getD i "")) cl (by rw [List.length_map]; exact Nat.le_trans (nodup_len (us := a :: U) clo_nd fun t ht => clo_low nd.ok ht) (by have := nd.ok.uf; rw [List.length_cons]; omega)) (fun _ => rfl)
      (fun i y H1 e1 hi => by
        obtain ⟨o, ho, hon, rfl⟩ := str_atB hi
        rw [getD_at ho]
        exact et_B (ev_dep rfl (fun _ _ => ev_var rfl) (fun _ _ => ev_var rfl) (nd.ex e1) hn (cn o hon) na))
      (fun i y H1 e1 hi _ => by
        obtain ⟨o, ho, hon, rfl⟩ := str_atB hi
        rw [getD_at ho]
        exact ev_var rfl)
    rw [List.length_map, given_fm (cloS g a) "" (fun o => decide (a ∈ cloS g o)) V.str] at lc
    exact lc H (Ex.refl H) _ fun l H1 z e hl => yes a rfl na l H1 z e hl
end
end Cr
/-! k24: a dense graph of 25 names, and a ring of sixty -/
namespace Cr
open PySem PySem.Spec PyProof.Rows L2 Evl
/-! ### 25 names that all need each other -/
def ln1 (i : Nat) : Str := ⟨#[97 + i]⟩
def dnL : List Str := (List.range 25).map ln1
theorem dn_name : ∀ n ∈ dnL, isNameS n = true := by decide +kernel
theorem dn_lt : dnL.Pairwise ltS := by
  unfold dnL
  refine List.Pairwise.map ln1 (fun a b (h : a < b) => ?_) List.pairwise_lt_range
  show [97 + a] < [97 + b]
  rw [List.cons_lt_cons_iff]
  exact .inl (by omega)
section
variable {U : List Str} {g : List Row}
theorem cyc_run {a : Str} {p : List Str} (h : cycS g a = some p) : (runP (tgS g) a 64).find? (fun p => decide (a ∈ tgS g (lastP p))) = some p := by
  unfold cycS pathsP at h
  exact h
theorem run_cyc {a : Str} {p : List Str} (h : (runP (tgS g) a 64).find? (fun p => decide (a ∈ tgS g (lastP p))) = some p) : cycS g a = some p := by
  unfold cycS pathsP
  exact h
theorem run64 (ok : GOk U g) (a : Str) : (runP (tgS g) a 64).length ≤ 64 := Nat.le_trans (run_few (fun s t m => (ok.tgU m).2) ok.uf 64) (by decide)
theorem sl_len {p r : List Str} (h : sle p r) : p.length ≤ r.length := by
  rcases h with rfl | h | ⟨h, _⟩ <;> omega
theorem dn_path (ok : GOk U g) (hm : ∀ q : Pr, q.2 ∈ tgS g q.1 ↔ (q.1 ∈ dnL ∧ q.2 ∈ dnL)) {a b : Str} (ha : a ∈ dnL) (hb : b ∈ dnL) (ne : a ≠ b) : pathS g a b = some [a, b] := by
  have m : b ∈ tgS g a := (hm (a, b)).mpr ⟨ha, hb⟩
  obtain ⟨p, h1, h2⟩ := find_least (T := tgS g) (a := a) ok.up' (run64 ok a) (fun z => decide (z = b)) (CP.cons m .one).isPath (decide_eq_true rfl)
  refine run_path_is ?_
  rw [h1]
  have hp := List.mem_of_find?_eq_some h1
  have e : lastP p = b := of_decide_eq_true (List.find?_some (p := fun p => decide (lastP p = b)) h1)
  have cp := (run_path (T := tgS g) (a := a) 64 p hp).1.cp
  have l2 : p.length ≤ 2 := sl_len h2
  cases cp with
  | one => exact absurd e ne
  | @cons _ t q m' c =>
    cases c with
    | one => rw [show t = b from e]
    | cons m2 c2 =>
      have := c2.pos
      simp only [List.length_cons] at l2
      omega
theorem dn_cyc (ok : GOk U g) (hm : ∀ q : Pr, q.2 ∈ tgS g q.1 ↔ (q.1 ∈ dnL ∧ q.2 ∈ dnL)) {a : Str} (ha : a ∈ dnL) : cycS g a = some [a] := by
  have m : a ∈ tgS g a := (hm (a, a)).mpr ⟨ha, ha⟩
  obtain ⟨p, h1, h2⟩ := find_least (T := tgS g) (a := a) ok.up' (run64 ok a) (fun z => decide (a ∈ tgS g z)) (.one : IsPath (tgS g) a [a]) (decide_eq_true m)
  refine run_cyc ?_
  rw [h1]
  have hp := List.mem_of_find?_eq_some h1
  have cp := (run_path (T := tgS g) (a := a) 64 p hp).1.cp
  have l1 : p.length ≤ 1 := sl_len h2
  cases cp with
  | one => rfl
  | cons m2 c2 =>
    have := c2.pos
    simp only [List.length_cons] at l1
    omega
theorem dn_clo (ok : GOk U g) (hm : ∀ q : Pr, q.2 ∈ tgS g q.1 ↔ (q.1 ∈ dnL ∧ q.2 ∈ dnL)) {a : Str} (ha : a ∈ dnL) : cloS g a = dnL := by
  refine rise_eq ltS_irrefl ltS_trans clo_lt dn_lt fun c => ?_
  rw [mem_clo ok]
  constructor
  · intro r
    induction r with
    | refl => exact ha
    | step _ m _ => exact ((hm (_, _)).mp m).2
  · exact fun hc => .step .refl ((hm (a, c)).mpr ⟨ha, hc⟩)
theorem dn_grp (ok : GOk U g) (hm : ∀ q : Pr, q.2 ∈ tgS g q.1 ↔ (q.1 ∈ dnL ∧ q.2 ∈ dnL)) {a : Str} (ha : a ∈ dnL) : grpS g a = dnL := by
  unfold grpS
  rw [dn_clo ok hm ha]
  exact List.filter_eq_self.mpr fun o ho => by rw [dn_clo ok hm ho]; exact decide_eq_true ha
end
/-! ### a ring of sixty -/
def rn (i : Nat) : Str := ⟨#[97 + i / 26, 97 + i % 26]⟩
theorem rn_inj {i j : Nat} (h : rn i = rn j) : i = j := by
  have e : [97 + i / 26, 97 + i % 26] = [97 + j / 26, 97 + j % 26] := congrArg (fun z => z.cps.toList) h
  injection e with e1 e2
  injection e2 with e2 _
  omega
def rnL : List Str := (List.range 60).map rn
theorem rn_name : ∀ n ∈ rnL, isNameS n = true := by decide +kernel
theorem rn_nd : rnL.Nodup := List.Pairwise.map rn (fun _ _ h z => h (rn_inj z)) List.nodup_range
theorem rn_mem {i : Nat} (h : i < 60) : rn i ∈ rnL := List.mem_map.mpr ⟨i, List.mem_range.mpr h, rfl⟩
def rnP : List Pr := (List.range 60).map fun i => ((rn i, rn ((i + 1) % 60)) : Pr)
def chn (i k : Nat) : List Str := (List.range (k + 1)).map fun j => rn ((i + j) % 60)
theorem chn_succ (i k : Nat) (h : i < 60) : chn i (k + 1) = rn i :: chn ((i + 1) % 60) k := by
  unfold chn
  rw [List.range_succ_eq_map, List.map_cons, List.map_map, Nat.add_zero, Nat.mod_eq_of_lt h]
  congr 1
  refine List.map_congr_left fun j _ => ?_
  show rn ((i + (j + 1)) % 60) = rn (((i + 1) % 60 + j) % 60)
  congr 1
  omega
theorem chn_zero (i : Nat) (h : i < 60) : chn i 0 = [rn i] := by
  unfold chn
  show [rn ((i + 0) % 60)] = _
  rw [Nat.add_zero, Nat.mod_eq_of_lt h]
theorem chn_last (i k : Nat) : lastP (chn i k) = rn ((i + k) % 60) := by
  unfold chn
  rw [List.range_succ, List.map_append]
  exact lastP_app _ _
section
variable {T : Str → List Str}
theorem ring_cp (hT : ∀ i, i < 60 → ∀ t, t ∈ T (rn i) → t = rn ((i + 1) % 60)) {n : Str} {p : List Str} (c : CP T n p) : ∀ {i : Nat}, i < 60 → n = rn i → p = chn i (p.length - 1) := by
  induction c with
  | one =>
    intro i hi e
    show _ = chn i 0
    rw [chn_zero i hi, e]
  | @cons n t q m hq ih =>
    intro i hi e
    rw [e] at m
    have et := hT i hi t m
    have lt : (i + 1) % 60 < 60 := Nat.mod_lt _ (by decide)
    have z := ih lt et
    have pos := hq.pos
    rw [List.length_cons, show q.length + 1 - 1 = (q.length - 1) + 1 by omega, chn_succ i _ hi, e, ← z]
theorem cp_ring (hT : ∀ i, i < 60 → rn ((i + 1) % 60) ∈ T (rn i)) : ∀ (k : Nat) {i : Nat}, i < 60 → CP T (rn i) (chn i k)
  | 0, i, hi => by rw [chn_zero i hi]; exact .one
  | k + 1, i, hi => by
    rw [chn_succ i k hi]
    exact .cons (hT i hi) (cp_ring hT k (Nat.mod_lt _ (by decide)))
end
theorem mem_rnP {q : Pr} : q ∈ rnP ↔ ∃ i, i < 60 ∧ q = (rn i, rn ((i + 1) % 60)) := by
  unfold rnP
  rw [List.mem_map]
  exact ⟨fun ⟨i, h, e⟩ => ⟨i, List.mem_range.mp h, e.symm⟩, fun ⟨i, h, e⟩ => ⟨i, List.mem_range.mpr h, e.symm⟩⟩
section
variable {U : List Str} {g : List Row}
theorem ring_to (hm : ∀ q : Pr, q.2 ∈ tgS g q.1 ↔ q ∈ rnP) : ∀ i, i < 60 → rn ((i + 1) % 60) ∈ tgS g (rn i) := fun i h => (hm (rn i, _)).mpr (mem_rnP.mpr ⟨i, h, rfl⟩)
theorem ring_of (hm : ∀ q : Pr, q.2 ∈ tgS g q.1 ↔ q ∈ rnP) : ∀ i, i < 60 → ∀ t, t ∈ tgS g (rn i) → t = rn ((i + 1) % 60) := fun i h t m => by
  obtain ⟨j, hj, e⟩ := mem_rnP.mp ((hm (rn i, t)).mp m)
  have e1 := rn_inj (Prod.mk.inj e).1
  rw [(Prod.mk.inj e).2, e1]
theorem ring_len (ok : GOk rnL g) {i : Nat} (hi : i < 60) {p : List Str} (hp : p ∈ runP (tgS g) (rn i) 64) : p.length ≤ 60 := by
  obtain ⟨ip, nd, _⟩ := run_path (T := tgS g) (a := rn i) 64 p hp
  have := nodup_len nd (path_inB (rn_mem hi) (fun s t m => (ok.tgU m).2) ip)
  rwa [show rnL.length = 60 from by unfold rnL; rw [List.length_map, List.length_range]] at this
theorem ring_path (ok : GOk rnL g) (hm : ∀ q : Pr, q.2 ∈ tgS g q.1 ↔ q ∈ rnP) : pathS g (rn 0) (rn 59) = some (chn 0 59) := by
  have c := cp_ring (ring_to hm) 59 (i := 0) (by decide)
  have z : (pathS g (rn 0) (rn 59)).isSome = true := by
    obtain ⟨p, h1, _⟩ := find_least (T := tgS g) (a := rn 0) ok.up' (run64 ok _) (fun z => decide (z = rn 59)) c.isPath (decide_eq_true (chn_last 0 59))
    rw [run_path_is h1]
    rfl
  cases hp : pathS g (rn 0) (rn 59) with
  | none => rw [hp] at z; cases z
  | some p =>
    have pm := path_run hp
    have e : lastP p = rn 59 := by
      unfold pathS at hp
      exact of_decide_eq_true (List.find?_some (p := fun p => decide (lastP p = rn 59)) hp)
    have cp := (run_path (T := tgS g) (a := rn 0) 64 p pm).1.cp
    have ec := ring_cp (ring_of hm) cp (i := 0) (by decide) rfl
    have pl := ring_len ok (i := 0) (by decide) pm
    have pos := cp.pos
    rw [ec, chn_last] at e
    have e2 := rn_inj e
    rw [ec, show p.length - 1 = 59 by omega]
theorem ring_cyc (ok : GOk rnL g) (hm : ∀ q : Pr, q.2 ∈ tgS g q.1 ↔ q ∈ rnP) : cycS g (rn 7) = some (chn 7 59) := by
  have c := cp_ring (ring_to hm) 59 (i := 7) (by decide)
  have cl : rn 7 ∈ tgS g (lastP (chn 7 59)) := by
    rw [chn_last]
    exact ring_to hm 6 (by decide)
  obtain ⟨p, h1, _⟩ := find_least (T := tgS g) (a := rn 7) ok.up' (run64 ok _) (fun z => decide (rn 7 ∈ tgS g z)) c.isPath (decide_eq_true cl)
  refine run_cyc ?_
  rw [h1]
  have pm := List.mem_of_find?_eq_some h1
  have e : rn 7 ∈ tgS g (lastP p) := of_decide_eq_true (List.find?_some (p := fun p => decide (rn 7 ∈ tgS g (lastP p))) h1)
  have cp := (run_path (T := tgS g) (a := rn 7) 64 p pm).1.cp
  have ec := ring_cp (ring_of hm) cp (i := 7) (by decide) rfl
  have pl := ring_len ok (i := 7) (by decide) pm
  have pos := cp.pos
  rw [ec, chn_last] at e
  have e2 := rn_inj (ring_of hm _ (Nat.mod_lt _ (by decide)) _ e)
  rw [ec, show p.length - 1 = 59 by omega]
/-! ### the ring cut -/
theorem cut_of (hm : ∀ q : Pr, q.2 ∈ tgS g q.1 ↔ (q ∈ rnP ∧ q.1 ≠ rn 30)) {s t : Str} (m : t ∈ tgS g s) : ∃ i, i < 60 ∧ i ≠ 30 ∧ s = rn i ∧ t = rn ((i + 1) % 60) := by
  obtain ⟨h1, h2⟩ := (hm (s, t)).mp m
  obtain ⟨i, hi, e⟩ := mem_rnP.mp h1
  obtain ⟨e1, e2⟩ := Prod.mk.inj e
  exact ⟨i, hi, fun z => h2 (by show s = _; rw [e1, z]), e1, e2⟩
theorem cut_reach (hm : ∀ q : Pr, q.2 ∈ tgS g q.1 ↔ (q ∈ rnP ∧ q.1 ≠ rn 30)) {c : Str} : Reach (tgS g) (rn 0) c ↔ ∃ i, i ≤ 30 ∧ c = rn i := by
  constructor
  · intro r
    induction r with
    | refl => exact ⟨0, by decide, rfl⟩
    | step _ m ih =>
      obtain ⟨i, hi, e⟩ := ih
      obtain ⟨j, hj, nj, e1, e2⟩ := cut_of hm m
      have ij := rn_inj (e.symm.trans e1)
      exact ⟨i + 1, by omega, by rw [e2, ← ij, Nat.mod_eq_of_lt (by omega)]⟩
  · rintro ⟨i, hi, rfl⟩
    induction i with
    | zero => exact .refl
    | succ i ih =>
      refine .step (ih (by omega)) ((hm (rn i, rn (i + 1))).mpr ⟨mem_rnP.mpr ⟨i, by omega, by rw [Nat.mod_eq_of_lt (show i + 1 < 60 by omega)]⟩, fun e => ?_⟩)
      have := rn_inj e
      omega
theorem cut_none (ok : GOk U g) (hm : ∀ q : Pr, q.2 ∈ tgS g q.1 ↔ (q ∈ rnP ∧ q.1 ≠ rn 30)) : pathS g (rn 0) (rn 59) = none := by
  cases hp : pathS g (rn 0) (rn 59) with
  | none => rfl
  | some p =>
    obtain ⟨i, hi, e⟩ := (cut_reach hm).mp ((pathS_some ok).mp (by rw [hp]; rfl))
    have := rn_inj e
    omega
theorem cut_rank (hm : ∀ q : Pr, q.2 ∈ tgS g q.1 ↔ (q ∈ rnP ∧ q.1 ≠ rn 30)) {i : Nat} (hi : i < 60) {c : Str} (r : Reach (tgS g) (rn i) c) : ∃ j, j < 60 ∧ c = rn j ∧ (i + 29) % 60 ≤ (j + 29) % 60 := by
  induction r with
  | refl => exact ⟨i, hi, rfl, Nat.le_refl _⟩
  | step _ m ih =>
    obtain ⟨j, hj, e, l⟩ := ih
    obtain ⟨k, hk, nk, e1, e2⟩ := cut_of hm m
    have ij := rn_inj (e.symm.trans e1)
    exact ⟨(k + 1) % 60, Nat.mod_lt _ (by decide), e2, by omega⟩
theorem cut_acy (ok : GOk rnL g) (hm : ∀ q : Pr, q.2 ∈ tgS g q.1 ↔ (q ∈ rnP ∧ q.1 ≠ rn 30)) : (g.all fun r => (cycS g r.s).isNone) = true := by
  refine List.all_eq_true.mpr fun r hr => ?_
  have h1 := ok.nm r hr
  unfold rnL at h1
  obtain ⟨i, hi, e⟩ := List.mem_map.mp h1
  have hi := List.mem_range.mp hi
  rw [← e]
  cases hc : cycS g (rn i) with
  | none => rfl
  | some p =>
    have hc := cyc_run hc
    have pm := List.mem_of_find?_eq_some hc
    have cl : rn i ∈ tgS g (lastP p) := of_decide_eq_true (List.find?_some (p := fun p => decide (rn i ∈ tgS g (lastP p))) hc)
    have rr := run_reach (T := tgS g) (a := rn i) (List.mem_map_of_mem (f := lastP) pm)
    obtain ⟨j, hj, ej, l⟩ := cut_rank hm hi rr
    obtain ⟨k, hk, nk, e1, e2⟩ := cut_of hm cl
    have a1 := rn_inj (ej.symm.trans e1)
    have a2 := rn_inj e2
    omega
theorem cut_clo (ok : GOk U g) (hm : ∀ q : Pr, q.2 ∈ tgS g q.1 ↔ (q ∈ rnP ∧ q.1 ≠ rn 30)) : cloS g (rn 0) = srtS (rnL.take 31) := by
  refine rise_eq ltS_irrefl ltS_trans clo_lt (srtS_lt (List.Nodup.sublist (List.take_sublist 31 rnL) rn_nd)) fun c => ?_
  rw [mem_clo ok, cut_reach hm, (srtS_perm _).mem_iff]
  unfold rnL
  rw [← List.map_take, List.mem_map, List.take_range]
  exact ⟨fun ⟨i, h, e⟩ => ⟨i, List.mem_range.mpr (by omega), e.symm⟩, fun ⟨i, h, e⟩ => ⟨i, by have := List.mem_range.mp h; omega, e.symm⟩⟩
end
theorem chn_all : chn 0 59 = rnL := by decide +kernel
theorem chn_seven : chn 7 59 = rnL.drop 7 ++ rnL.take 7 := by decide +kernel
end Cr
/-! xs[:] = ys -/
/-! dict([(name, a new list) for name in names]); list.remove of a pair -/
namespace Cr
open PySem PySem.Spec PyProof.Rows L2 Evl
/-- a dict of lists of names, by names -/
def NmD (H : Hp) (d : Addr) (ns : List Str) (f : Str → List Str) : Prop := ∃ kvs, H d = some (.dK kvs) ∧ ∀ n ∈ ns, ∃ L, valV kvs (.inr n) = some (.ref L) ∧ H L = some (.lst ((f n).map V.str))
theorem NmD.ex {H H' : Hp} {d : Addr} {ns : List Str} {f : Str → List Str} (h : NmD H d ns f) (e : Ex H H') : NmD H' d ns f := by
  obtain ⟨kvs, h1, h2⟩ := h
  exact ⟨kvs, e _ _ h1, fun n hn => by obtain ⟨L, a, b⟩ := h2 n hn; exact ⟨L, a, e _ _ b⟩⟩
/-! ### list.remove of a pair -/
end Cr
/-! list(a text); parts of lists of names -/
namespace Cr
open PySem PySem.Spec PyProof.Rows L2 Evl
theorem cut_from (ss : List Str) (k : Nat) (h : k ≤ ss.length) : cutV (ss.map V.str) (some (k : Int)) none = (ss.drop k).map V.str := by
  unfold cutV
  rw [HT.sIx_nat, HT.sIx_none, List.length_map, Nat.min_eq_left h, ← List.map_drop, List.take_of_length_le (by rw [List.length_map, List.length_drop]; exact Nat.le_refl _)]
theorem cut_to (ss : List Str) (k : Nat) (h : k ≤ ss.length) : cutV (ss.map V.str) none (some (k : Int)) = (ss.take k).map V.str := by
  unfold cutV
  rw [HT.sIx_nat, HT.sIx_none, List.length_map, Nat.min_eq_left h, List.drop_zero, Nat.sub_zero, List.map_take]
theorem vals_of_at : ∀ {xs : List V} {us : List Value}, xs.length = us.length → (∀ (i : Nat) (x : V) (u : Value), xs[i]? = some x → us[i]? = some u → RelV x u) → Vals xs us
  | [], [], _, _ => .nil
  | [], _ :: _, h, _ => by cases h
  | _ :: _, [], h, _ => by cases h
  | x :: xs, u :: us, h, k => .cons (k 0 x u rfl rfl) (vals_of_at (by simpa using h) fun i a b ha hb => k (i + 1) a b ha hb)
def rListS : List V → Hp → VK → Prop := fun vs H Q => ∃ z : Str, vs = [.str z] ∧ z.length ≤ 1000 ∧ ∀ l, H l = none → Q (.ref l) (upd H l (.lst (z.cps.toList.map fun c => V.str ⟨#[c]⟩)))
section
variable {X : Cx}
theorem cr_listS (hc : X.calm = true) : CallR X (.type "list") rListS := by
  intro pins s σ H xs us Q I r h
  obtain ⟨z, rfl, hz, q⟩ := h
  obtain ⟨u, rfl, t, rfl⟩ := vals1 r
  refine call_list_str (I.ok.hd hc) z t (fun h' tk acc c' kp e it => ?_) (by have : z.cps.size = z.length := rfl; rw [this, sizeLine_eq]; omega)
  have vs : Vals (z.cps.toList.map fun c => V.str ⟨#[c]⟩) acc.toList := by
    refine vals_of_at (by rw [List.length_map, Array.length_toList, Array.length_toList, it.1]) fun i x u hx hu => ?_
    obtain ⟨c, t2, h1, h2⟩ := it.2 i u (by rw [← Array.getElem?_toList]; exact hu)
    rw [List.getElem?_map, Array.getElem?_toList, h1] at hx
    cases hx
    exact ⟨t2, h2⟩
  exact ⟨.ref s.heap.objs.size, _, I.laid (t' := tk) kp (Nat.le_refl _) (show ObjOk X.prog X.w _ h' _ (.lst (z.cps.toList.map fun c => V.str ⟨#[c]⟩)) from ⟨by rw [List.length_map, sizeLine_eq]; have : z.cps.toList.length = z.length := rfl; omega, acc.toList, c', vs, by rw [e]⟩), rfl, q _ (I.hok.fresh (Nat.le_refl _))⟩
end
end Cr
/-! graphs of needs: without cycles? -/
namespace Cr
open PySem PySem.Spec PyProof.Rows L2 Evl
theorem pick_fm {α : Type} (l : List α) (d : α) (f : α → Bool) {β : Type} (v : α → β) : ((List.range l.length).filter fun i => f (l.getD i d)).map (fun i => v (l.getD i d)) = (l.filter f).map v := by
  have e : (List.range l.length).map (fun i => l.getD i d) = l := by
    refine List.ext_getElem? fun i => ?_
    rw [List.getElem?_map]
    by_cases hi : i < l.length
    · rw [List.getElem?_range hi, List.getElem?_eq_getElem hi]
      show some (l.getD i d) = _
      rw [List.getD_eq_getElem?_getD, List.getElem?_eq_getElem hi]
      rfl
    · rw [List.getElem?_eq_none (by rw [List.length_range]; omega), List.getElem?_eq_none (by omega)]
      rfl
  have z : (((List.range l.length).map fun i => l.getD i d).filter f).map v = (l.filter f).map v := by rw [e]
  rw [List.filter_map, List.map_map] at z
  exact z
theorem getD_is {α : Type} {l : List α} {i : Nat} {d x : α} (h : l[i]? = some x) : l.getD i d = x := by
  rw [List.getD_eq_getElem?_getD, h]
  rfl
abbrev rIsNon : R2 := fun x y H Q => y = .non ∧ Q (.bl (decide (x = .non))) H
section
variable {P : Program} {w : World} {K : PySem.W.Frag} {mg : Str → Option Value} {base : Heap}
theorem ok_acy {f C CN : Addr} {fd : FuncData} {k n : Nat} (F : Fun K "is_acyclic" "Needs.is_acyclic" sNAcy f fd) (B : Blt mg) (T : NdC K mg C) (hn1 : 1 ≤ n) (h1 : HasM P w K mg base (L2.CX P w) k C "cycle_through" ["self", "name"] (spCycR C CN n)) : FnOk P w K mg base CX0 (k + 1) f fd ["self"] (spAcy C) := by
  obtain ⟨f1, d1, G1, b1, m1⟩ := h1.ex
  refine F.ok scNAcy (fun vs H Q E h => by obtain ⟨_, _, _, _, rfl, _⟩ := h; rfl) (fun cdv A outer s H vs Q E hr h => ?_)
  obtain ⟨x, A', U, g, rfl, nd, q⟩ := h
  refine ⟨_, pss_one (ps_ret (pe_callB (cr_all rfl) (by rfl) B.all bAll (pa_cons (pe_lock (pe_lc (own := [("source", 1)]) (g := gName 1) (tt := tYes) (te := tOp rIsNon (tMeth C "cycle_through" (spCycR C CN n) [] E0 (tVar 0) (tCons (tVar 1) tNil)) (tC .non)) rfl scNAcy.nd (pi_keys (pe_fld (pv 0) rfl)) (blkOk_by (own := [("source", 1)]) (N := ["self", "source"]) (sc := defScope sNAcy) (by decide +kernel))
    (fun _ _ _ _ _ => pg_name (i := 1) scNAcy.nd rfl (Or.inl rfl)) (fun _ _ _ _ _ => pts_nil) (fun _ _ _ _ _ => by exact pe_cmpR op_isN (pe_meth (E := E0) (pv 0) T.cl m1 G1 hr b1 .nil passL (pa_cons (pv 1) pa_nil)) pe_non (nomark _)))) pa_nil))), ?_⟩
  refine ⟨A'.dd, .dK (g.map kvR), nd.di, trivial, fun od => ?_⟩
  have lk : ∀ {c : Addr} {o : HO}, c ≠ A'.dd → H c = some o → (upd H A'.dd (.frz od (.dK (g.map kvR)))) c = some o := fun n h => by rw [upd_ne n]; exact h
  have ndL : NdR C (upd H A'.dd (.frz od (.dK (g.map kvR)))) x A' U g := ⟨lk nd.xd nd.ob, .inr ⟨od, upd_same⟩, fun r hr => lk (nd.da hr).symm (nd.ls r hr), nd.ok⟩
  have di3 : (upd H A'.dd (.frz od (.dK (g.map kvR)))) A'.dd = some (.frz od (.dK (g.map kvR))) := upd_same
  have up3 : ∀ {H' : Hp}, Ex (upd H A'.dd (.frz od (.dK (g.map kvR)))) H' → Ex H (upd H' A'.dd (.dK (g.map kvR))) := fun {H'} e c o hc => by
    by_cases ec : c = A'.dd
    · rw [ec, upd_same]
      rw [ec, nd.di] at hc
      exact hc
    · rw [upd_ne ec]
      exact e _ _ (lk ec hc)
  generalize upd H A'.dd (.frz od (.dK (g.map kvR))) = HL at ndL di3 up3
  have few := nd.ok.fewK
  have lc := el_lcW (wi := iKeys (tFld K (tVar 0) "needed")) (g := gName 1) (tt := tYes) (te := tOp rIsNon (tMeth C "cycle_through" (spCycR C CN n) [] E0 (tVar 0) (tCons (tVar 1) tNil)) (tC .non)) (vs := [1]) (σ := [some (.ref x), none]) (H := HL) (n := (g.map kvR).length) (Y := fun i H x H' => H' = H ∧ ∃ k v, (g.map kvR)[i]? = some (k, v) ∧ x = kV k) (fun _ => true) (fun i => .bl (cycS g (g.getD i ⟨"", 0, []⟩).s).isNone) (by rw [List.length_map]; omega)
    (fun H1 e1 R r => ⟨.ref x, rfl, x, C, A'.dx, _, .ref A'.dd, rfl, e1 _ _ ndL.ob, T.cl, T.nN, rfl, A'.dd, od, rfl, .inl ⟨g.map kvR, e1 _ _ di3, r H1 _ _ walk_keys (fun _ _ e z => e _ _ z) (Ex.refl H1) (e1 _ _ di3)⟩⟩)
    (fun i y H1 H2 e1 hi hy => by
      obtain ⟨rfl, kk, vv, hkv, rfl⟩ := hy
      rw [List.length_map] at hi
      rw [List.getElem?_map, List.getElem?_eq_getElem hi] at hkv
      have hkv' : kvR g[i] = (kk, vv) := Option.some.inj hkv
      obtain rfl : Sum.inr g[i].s = kk := congrArg Prod.fst hkv'
      have mem := List.getElem_mem hi
      rw [getD_is (List.getElem?_eq_getElem hi)]
      have nmo := nd.ok.un _ (nd.ok.nm _ mem)
      refine ⟨Ex.refl _, [some (.ref x), some (.str g[i].s)], rfl, fun R r => r, fun H4 _ Q q => q H4 (Ex.refl H4), fun _ H4 e4 Q' q' => ?_⟩
      have nd4 := ndL.ex (e1.trans e4)
      refine ⟨.ref x, rfl, x, A'.dx, _, rfl, nd4.ob, rfl, .str g[i].s, rfl, x, .str g[i].s, .str g[i].s, A', U, g, rfl, nd4, .str _, sm_name nmo, ⟨rfl, by show 0 < n; omega⟩, fun z => ?_, fun a ea na => ?_⟩
      · rw [show isName (.str g[i].s) = true from nmo] at z; cases z
      · cases ea
        refine ⟨fun hn H5 e5 => ⟨rfl, ?_⟩, fun p hp r H5 zr e5 hr5 => ⟨rfl, ?_⟩⟩
        · rw [hn] at q'
          exact q' H5 e5
        · rw [hp] at q'
          exact q' H5 e5)
  have eg : given (g.map kvR).length (fun _ => true) (fun i => V.bl (cycS g (g.getD i ⟨"", 0, []⟩).s).isNone) = (g.map fun r => (cycS g r.s).isNone).map V.bl := by
    have go : ∀ c : Str → Bool, given (g.map kvR).length (fun _ => true) (fun i => V.bl (c (g.getD i ⟨"", 0, []⟩).s)) = (g.map fun r => c r.s).map V.bl := fun c => by
      rw [List.length_map]
      have z := pick_fm g ⟨"", 0, []⟩ (fun _ => true) (fun r => V.bl (c r.s))
      rw [List.filter_eq_self.mpr (fun _ _ => rfl), List.filter_eq_self.mpr (fun _ _ => rfl)] at z
      rw [given_all, z, List.map_map]
      rfl
    exact go fun s => (cycS g s).isNone
  rw [eg] at lc
  refine lc HL (Ex.refl HL) _ fun L H2 zL e2 hL => ⟨e2 _ _ di3, ?_⟩
  have nL : L ≠ A'.dd := fun e => by rw [e, di3] at zL; cases zL
  refine ⟨L, g.map fun r => (cycS g r.s).isNone, rfl, sq_of (by rw [upd_ne nL]; exact hL), ?_⟩
  have ea : ∀ c : Row → Bool, (g.map c).all id = g.all c := fun c => by rw [List.all_map]; rfl
  rw [ea]
  exact q _ (up3 e2)
end
end Cr
/-! k24: the large graphs -/
namespace Cr
open PySem PySem.Spec PyProof.Rows L2 Evl
abbrev sLR : Stmt := topS 25
abbrev nLR : List Str := ["_law_letters", "_law_names", "_law_dense", "_law_ring", "_law_one", "_law_other", "_law_around", "_law_at"]
theorem scLR : FnScope nLR [] (defScope sLR) := ⟨rfl, rfl, rfl, by decide +kernel, rfl, by decide +kernel, by decide +kernel⟩
def spLR : Sp := fun vs H Q _ => vs = [] ∧ ∀ H', Ex H H' → Q (.bl true) H'
section
variable {C CN x : Addr} {n : Nat} {A : NdA} {U : List Str} {g : List Row} {σ : L2.St} {H : Hp} {i : Nat} {ty tz : TE} {E : XK} {a b : Str} {p : List Str}
theorem el_cycS (h : σ[i]? = some (some (.ref x))) (hy : ∀ H1, Ex H H1 → Ev ty σ H1 (.str a)) (nd : NdAt C H x A U g) (hn : 1 ≤ n) (na : isNameS a = true) (hp : cycS g a = some p) : EvL (tMeth C "cycle_through" (spCycR C CN n) [] E (tVar i) (tCons ty tNil)) σ H (p.map V.str) := fun H1 e Q q => by
  refine ⟨.ref x, h, x, A.dx, _, rfl, (nd.ex e).ob, rfl, hy H1 e H1 (Ex.refl H1) _ fun H2 e2 => ⟨x, .str a, .str a, A, U, g, rfl, (nd.ex (e.trans e2)).r, .str a, sm_name na, ⟨rfl, by show 0 < n; omega⟩, fun z => ?_, fun a' ea _ => ?_⟩⟩
  · rw [show isName (.str a) = true from na] at z; cases z
  · cases ea
    refine ⟨fun hp' => (by rw [hp] at hp'; cases hp'), fun p' hp' r H' zr e' hr => ?_⟩
    rw [hp] at hp'
    cases hp'
    exact q r H' (fresh_back e2 zr) (e2.trans e') hr
theorem ev_acyS (h : σ[i]? = some (some (.ref x))) (nd : NdAt C H x A U g) : Ev (tMeth C "is_acyclic" (spAcy C) [] E (tVar i) tNil) σ H (.bl (g.all fun r => (cycS g r.s).isNone)) := fun H1 e Q q =>
  ⟨.ref x, h, x, A.dx, _, rfl, (nd.ex e).ob, rfl, x, A, U, g, rfl, nd.ex e, fun H' e' => q H' e'⟩
end
theorem el_grp {C CN x : Addr} {n : Nat} {A : NdA} {U : List Str} {g : List Row} {σ : L2.St} {H : Hp} {i : Nat} {ty : TE} {E : XK} {nm : Str} (h : σ[i]? = some (some (.ref x))) (hy : ∀ H1, Ex H H1 → Ev ty σ H1 (.str nm)) (nd : NdAt C H x A U g) (hn : 1 ≤ n) (nmo : isNameS nm = true) : EvL (tMeth C "group" (spGrp C CN n) [] E (tVar i) (tCons ty tNil)) σ H ((grpS g nm).map V.str) := fun H1 e Q q =>
  ⟨.ref x, h, x, A.dx, _, rfl, (nd.ex e).ob, rfl, hy H1 e H1 (Ex.refl H1) _ fun H2 e2 => ⟨x, .str nm, .str nm, A, U, g, rfl, nd.ex (e.trans e2), .str nm, sm_name nmo, ⟨rfl, by show 0 < n; omega⟩, fun z => (by rw [show isName (.str nm) = true from nmo] at z; cases z), fun a ea na => (by cases ea; exact fun l H3 zl e3 hl => q l H3 (fresh_back e2 zl) (e2.trans e3) hl)⟩⟩
theorem let25 : ((cutS abc none (some 25)).cps.toList.map fun c => V.str ⟨#[c]⟩) = dnL.map V.str := by
  have e : (cutS abc none (some 25)).cps.toList = (List.range 25).map (97 + ·) := by decide +kernel
  rw [e]
  unfold dnL
  rw [List.map_map, List.map_map]
  rfl
theorem rn_at {i : Nat} (h : i < 60) : rnL[i]? = some (rn i) := by
  unfold rnL
  rw [List.getElem?_map, List.getElem?_range h]
  rfl
theorem rr_at {i : Nat} (h : i < 60) : (rnL.drop 1 ++ rnL.take 1)[i]? = some (rn ((i + 1) % 60)) := by
  have : ∀ i, i < 60 → (rnL.drop 1 ++ rnL.take 1)[i]? = some (rn ((i + 1) % 60)) := by decide +kernel
  exact this i h
theorem rn_len : rnL.length = 60 := by unfold rnL; rw [List.length_map, List.length_range]
theorem dn_len : dnL.length = 25 := by unfold dnL; rw [List.length_map, List.length_range]
theorem rnP_at {i : Nat} (h : i < 60) : rnP[i]? = some (rn i, rn ((i + 1) % 60)) := by
  unfold rnP
  rw [List.getElem?_map, List.getElem?_range h]
  rfl
theorem rnP_len : rnP.length = 60 := by unfold rnP; rw [List.length_map, List.length_range]
section
variable {P : Program} {w : World} {K : PySem.W.Frag} {mg : Str → Option Value} {base : Heap}
theorem ok_lr {f C CN : Addr} {fd : FuncData} {k n : Nat} (F : Fun K "_law_large_right" "_law_large_right" sLR f fd) (B : Blt mg) (N : NdC K mg C) (hk : 1 ≤ k) (hn1 : 1 ≤ n) (h5 : MkN P w K mg base (k - 1) C)
    (h6 : HasM P w K mg base (L2.CX P w) k C "record" ["self", "source", "target"] (spRecord C CN n)) (h1 : HasM P w K mg base (L2.CX P w) k C "path" ["self", "one", "other"] (spPath C CN n)) (h2 : HasM P w K mg base (L2.CX P w) k C "group" ["self", "name"] (spGrp C CN n)) (h3 : HasM P w K mg base (L2.CX P w) k C "cycle_through" ["self", "name"] (spCycR C CN n))
    (h4 : HasM P w K mg base CX0 k C "delete_all" ["self", "source"] (spDelAll C)) (h7 : HasM P w K mg base CX0 k C "is_acyclic" ["self"] (spAcy C)) (h8 : HasM P w K mg base (L2.CX P w) k C "closure" ["self", "name"] (spClo C CN n)) :
    FnG P w K mg base CX0 (k + 1) f fd [] spLR := by
  obtain ⟨f1, d1, G1, b1, m1⟩ := h1.ex
  obtain ⟨f2, d2, G2, b2, m2⟩ := h2.ex
  obtain ⟨f3, d3, G3, b3, m3⟩ := h3.ex
  obtain ⟨f4, d4, G4, b4, m4⟩ := h4.ex
  obtain ⟨f5, d5, M5, G5, b5⟩ := h5.ex
  obtain ⟨f6, d6, G6, b6, m6⟩ := h6.ex
  obtain ⟨f7, d7, G7, b7, m7⟩ := h7.ex
  obtain ⟨f8, d8, G8, b8, m8⟩ := h8.ex
  refine okG F scLR (fun vs H Q E h => by obtain ⟨rfl, _⟩ := h; rfl) (fun cdv A outer s H vs Q E hq hr h => ?_)
  obtain ⟨rfl, q⟩ := h
  have hr1 := hr.mono (j := k - 1 + 1) (by omega)
  refine ⟨_, pss_cons (ps_set (i := 0) scLR.nd rfl (.inr rfl) pe_str)
    (pss_cons (ps_par3 (i := 1) (j := 2) (l := 3) (by rfl) scLR.nd rfl rfl rfl (by decide) (by decide) (by decide) rfl rfl rfl (pa_cons (pe_callTy (cr_listS (by rfl)) (by rfl) B.list bList (pa_cons (pe_slice sl_str (pv 0) po_none (po_some pe_int)) pa_nil)) (pa_cons (pe_make0 (E := E0) M5 G5 hr1 (by rfl) N.at_ b5 .nil pass0) (pa_cons (pe_make0 (E := E0) M5 G5 hr1 (by rfl) N.at_ b5 .nil pass0) pa_nil))) (by rfl))
    (pss_cut (ps_for PassesOwn.never rfl (pi_list (pv 1)) (pg_name (i := 4) scLR.nd rfl (.inl rfl))
      (pss_one (ps_for PassesOwn.never rfl (pi_list (pv 1)) (pg_name (i := 5) scLR.nd rfl (.inl rfl))
        (pss_one (ps_expr (pe_meth (E := E0) (pv 2) N.cl m6 G6 hr b6 .nil passL (pa_cons (pv 4) (pa_cons (pv 5) pa_nil))))))))
    (pss_cons (ps_if (pt_cmpR (op_neDt hr.units) (pe_lst (pa_cons (pe_meth (E := E0) (pv 2) N.cl m1 G1 hr b1 .nil passL (pa_cons pe_str (pa_cons pe_str pa_nil))) (pa_cons (pe_meth (E := E0) (pv 2) N.cl m2 G2 hr b2 .nil passL (pa_cons pe_str pa_nil)) (pa_cons (pe_meth (E := E0) (pv 2) N.cl m3 G3 hr b3 .nil passL (pa_cons pe_str pa_nil)) pa_nil))))
        (pe_lst (pa_cons (pe_lst (pa_cons pe_str (pa_cons pe_str pa_nil))) (pa_cons (pv 1) (pa_cons (pe_lst (pa_cons pe_str pa_nil)) pa_nil)))) (nomark _)) (pss_one (ps_ret pe_bl)) pss_nil)
    (pss_cons (ps_setLc (i := 6) (own := [("_law_at", 7)]) (g := gName 7) (tt := tYes) rfl scLR.nd rfl rfl (sw_true rfl rfl rfl (by decide +kernel)) (pi_range1 (by rfl) B.range (pa_cons pe_int pa_nil)) (blkOk_by (own := [("_law_at", 7)]) (N := nLR) (sc := defScope sLR) (by decide +kernel))
        (fun _ _ _ _ _ => pg_name (i := 7) scLR.nd rfl (Or.inl rfl)) (fun _ _ _ _ _ => pts_nil)
        (fun _ _ _ _ _ => pe_op op_add_str (pe_ix ix_str (pv 0) (pe_op op_fdiv (pv 7) pe_int) (fun _ _ => rfl)) (pe_ix ix_str (pv 0) (pe_op op_mod (pv 7) pe_int) (fun _ _ => rfl))))
    (pss_cut (ps_for PassesOwn.never rfl (pi_zip (by rfl) B.zip (pa_cons (pv 6) (pa_cons (pe_op op_cat (pe_slice sl_list (pv 6) (po_some pe_int) po_none) (pe_slice sl_list (pv 6) po_none (po_some pe_int))) pa_nil))) (pg_tup rfl (pgs_cons (pg_name (i := 4) scLR.nd rfl (.inl rfl)) (pgs_cons (pg_name (i := 5) scLR.nd rfl (.inl rfl)) pgs_nil)))
        (pss_one (ps_expr (pe_meth (E := E0) (pv 3) N.cl m6 G6 hr b6 .nil passL (pa_cons (pv 4) (pa_cons (pv 5) pa_nil))))))
    (pss_cons (ps_if (PW.pt (pw_or (pt_cmpR (op_neDt hr.units) (pe_meth (E := E0) (pv 3) N.cl m1 G1 hr b1 .nil passL (pa_cons (pe_ix ix_list (pv 6) pe_int (fun _ _ => rfl)) (pa_cons (pe_ix ix_list (pv 6) (pe_un un_neg pe_int) (fun _ _ => rfl)) pa_nil))) (pv 6) (nomark _)) (pw_or1 (pt_cmpR (op_neDt hr.units) (pe_meth (E := E0) (pv 3) N.cl m3 G3 hr b3 .nil passL (pa_cons (pe_ix ix_list (pv 6) pe_int (fun _ _ => rfl)) pa_nil)) (pe_op op_cat (pe_slice sl_list (pv 6) (po_some pe_int) po_none) (pe_slice sl_list (pv 6) po_none (po_some pe_int))) (nomark _))))) (pss_one (ps_ret pe_bl)) pss_nil)
    (pss_cons (ps_expr (pe_meth (E := E0) (pv 3) N.cl m4 G4 hr b4 .nil pass0 (pa_cons (pe_ix ix_list (pv 6) pe_int (fun _ _ => rfl)) pa_nil)))
    (pss_one (ps_ret (pe_and (pe_cmpR op_isN (pe_meth (E := E0) (pv 3) N.cl m1 G1 hr b1 .nil passL (pa_cons (pe_ix ix_list (pv 6) pe_int (fun _ _ => rfl)) (pa_cons (pe_ix ix_list (pv 6) (pe_un un_neg pe_int) (fun _ _ => rfl)) pa_nil))) pe_non (nomark _)) (pe_and (pe_meth0 (E := E0) (pv 3) N.cl m7 G7 hr b7 .nil pass0)
      (pe_one (pe_cmpR (op_eqDt hr.units) (pe_meth (E := E0) (pv 3) N.cl m8 G8 hr b8 .nil passL (pa_cons pe_str pa_nil)) (pe_callB cr_sortedS (by rfl) B.sorted bSorted (pa_cons (pe_slice sl_list (pv 6) po_none (po_some pe_int)) pa_nil)) (nomark _)))))))))))))), ?_⟩
  refine q_asg ev_c fun H0 e0 => ?_
  show tSeq _ _ _ [some (.str abc), none, none, none, none, none, none, none] H0
  refine ⟨.str abc, rfl, 25, rfl, abc, rfl, by decide +kernel, _, rfl, by decide +kernel, fun ln hln => ?_⟩
  rw [let25]
  have e4 : Ex H (upd H0 ln (.lst (dnL.map V.str))) := e0.trans (Ex.new hln)
  have hl4 : (upd H0 ln (.lst (dnL.map V.str))) ln = some (.lst (dnL.map V.str)) := upd_same
  generalize upd H0 ln (.lst (dnL.map V.str)) = HB at e4 hl4
  clear e0 hln
  refine fun x dx zx zdx nxd => ⟨x, dx, rfl, upd_same, fun dd H5 zdd ndx eH5 => ⟨rfl, fun y dy zy zdy nyd => ⟨y, dy, rfl, upd_same, fun de H6 zde ndy eH6 => ⟨rfl, _, _, _, rfl, ?_⟩⟩⟩⟩
  obtain ⟨A1, e5, ng1⟩ : ∃ A1, Ex HB H5 ∧ NewG C HB H5 x A1 dnL [] := by
    have := new_of (C := C) (U := dnL) (H := HB) (Q := fun v H' => v = .ref x → ∃ A1, Ex HB H' ∧ NewG C HB H' x A1 dnL []) dn_name (by rw [dn_len]; decide) (fun y A' H' e' n' ey => by cases ey; exact ⟨A', e', n'⟩) zx zdx nxd zdd ndx eH5
    exact this rfl
  obtain ⟨A2, e6, ng2⟩ : ∃ A2, Ex H5 H6 ∧ NewG C H5 H6 y A2 rnL [] := by
    have := new_of (C := C) (U := rnL) (H := H5) (Q := fun v H' => v = .ref y → ∃ A1, Ex H5 H' ∧ NewG C H5 H' y A1 rnL []) rn_name (by rw [rn_len]; decide) (fun y A' H' e' n' ey => by cases ey; exact ⟨A', e', n'⟩) zy zdy nyd zde ndy eH6
    exact this rfl
  have n1 : y ≠ A1.dd := ne_of_none ng1.nd.di ng2.zx |>.symm
  have n2 : A2.dd ≠ A1.dd := ne_of_none ng1.nd.di ng2.zd |>.symm
  have ng1 := ng1.ex e6
  have ng2 : NewG C HB H6 y A2 rnL [] := ⟨ng2.nd, fresh_back e5 ng2.zx, fresh_back e5 ng2.zd, fun r hr => nomatch hr⟩
  have eB := e5.trans e6
  clear eH5 eH6 e5 e6 zx zdx nxd zdd ndx zy zdy nyd zde ndy
  dsimp only
  show tCut _ _ _ [some (.str abc), some (.ref ln), some (.ref x), some (.ref y), none, none, none, none] H6
  -- the dense graph
  refine q_cut (M := fun σ H' => ∃ (y4 y5 : Option V) (g : List Row), σ = [some (.str abc), some (.ref ln), some (.ref x), some (.ref y), y4, y5, none, none] ∧ Ex HB H' ∧ NewG C HB H' x A1 dnL g ∧ NewG C HB H' y A2 rnL [] ∧ ∀ q : Pr, q.2 ∈ tgS g q.1 ↔ (q.1 ∈ dnL ∧ q.2 ∈ dnL)) ?_ ?_
  · refine s_forLn (a := ln) (xs := dnL.map V.str) (ev_var rfl) (sq_of (eB _ _ hl4)) (fun j σ H' => ∃ (y4 y5 : Option V) (g : List Row), σ = [some (.str abc), some (.ref ln), some (.ref x), some (.ref y), y4, y5, none, none] ∧ Ex HB H' ∧ NewG C HB H' x A1 dnL g ∧ NewG C HB H' y A2 rnL [] ∧ ∀ q : Pr, q.2 ∈ tgS g q.1 ↔ (q.1 ∈ dnL.take j ∧ q.2 ∈ dnL)) (fun H7 e7 => ⟨none, none, [], rfl, eB.trans e7, ng1.ex e7, ng2.ex e7, fun q => by simp [tgS, rowOf]⟩) (fun j σ H' _ h => ?_) (fun j v σ H7 hj h => ?_) (fun σ H' h => ?_)
    · obtain ⟨_, _, _, _, e, _⟩ := h
      exact sq_of (e _ _ hl4)
    rotate_left
    · obtain ⟨y4, y5, g, rfl, e, a, b, hm⟩ := h
      rw [List.length_map, List.take_length] at hm
      exact ⟨y4, y5, g, rfl, e, a, b, hm⟩
    obtain ⟨y4, y5, g, rfl, e7, a7, b7, hm7⟩ := h
    obtain ⟨a, ha, hma, rfl⟩ := str_at hj
    show tFor _ _ _ _ [some (.str abc), some (.ref ln), some (.ref x), some (.ref y), some (.str a), y5, none, none] H7
    refine s_forLn (a := ln) (xs := dnL.map V.str) (ev_var rfl) (sq_of (e7 _ _ hl4)) (fun j' σ H' => ∃ (y5 : Option V) (g : List Row), σ = [some (.str abc), some (.ref ln), some (.ref x), some (.ref y), some (.str a), y5, none, none] ∧ Ex HB H' ∧ NewG C HB H' x A1 dnL g ∧ NewG C HB H' y A2 rnL [] ∧ ∀ q : Pr, q.2 ∈ tgS g q.1 ↔ ((q.1 ∈ dnL.take j ∧ q.2 ∈ dnL) ∨ (q.1 = a ∧ q.2 ∈ dnL.take j'))) (fun H8 e8 => ⟨y5, g, rfl, e7.trans e8, a7.ex e8, b7.ex e8, fun q => by rw [hm7 q]; simp⟩) (fun j σ H' _ h => ?_) (fun j' v σ H8 hj' h => ?_) (fun σ H' h => ?_)
    · obtain ⟨_, _, _, e, _⟩ := h
      exact sq_of (e _ _ hl4)
    rotate_left
    · obtain ⟨y5, g, rfl, e, a', b, hm⟩ := h
      refine ⟨_, y5, g, rfl, e, a', b, fun q => (hm q).trans ?_⟩
      rw [List.length_map, List.take_length, take_memB ha]
      constructor
      · rintro (h | ⟨h1, h2⟩)
        · exact ⟨.inl h.1, h.2⟩
        · exact ⟨.inr h1, h2⟩
      · rintro ⟨h1 | h1, h2⟩
        · exact .inl ⟨h1, h2⟩
        · exact .inr ⟨h1, h2⟩
    obtain ⟨y5, g8, rfl, e8, a8, b8, hm8⟩ := h
    obtain ⟨b, hb, hmb, rfl⟩ := str_at hj'
    show tDrop _ _ [some (.str abc), some (.ref ln), some (.ref x), some (.ref y), some (.str a), some (.str b), none, none] H8
    refine ⟨.ref x, rfl, x, A1.dx, _, rfl, a8.nd.ob, rfl, .str a, rfl, .str b, rfl, ?_⟩
    dsimp only [tNil]
    refine rec_of a8.nd hn1 hma hmb fun b9 g9 H9 bu9 nd9 hm9 hr9 => ?_
    have e9 : Ex HB H9 := fun o z h => bu9 o z (fun m => by rw [List.mem_singleton.mp m, a8.zd] at h; cases h) (e8 o z h)
    refine ⟨_, g9, rfl, e9, ⟨nd9, a8.zx, a8.zd, fun r hr => ?_⟩, ⟨b8.nd.but bu9 (fun m => n1 (List.mem_singleton.mp m)) (fun m => n2 (List.mem_singleton.mp m)) (fun r hr => nomatch hr), b8.zx, b8.zd, b8.za⟩, fun q' => (hm9 q').trans ?_⟩
    · rcases hr9 r hr with h | h
      · exact a8.za r h
      · exact fresh_back e8 h
    · rw [hm8 q', take_memB hb]
      constructor
      · rintro (h | h | ⟨h1, h2⟩)
        · rw [h]; exact .inr ⟨rfl, .inr rfl⟩
        · exact .inl h
        · exact .inr ⟨h1, .inl h2⟩
      · rintro (h | ⟨h1, h2 | h2⟩)
        · exact .inr (.inl h)
        · exact .inr (.inr ⟨h1, h2⟩)
        · exact .inl (Prod.ext h1 h2)
  clear eB ng1 ng2
  rintro σ H7 ⟨y4, y5, g, rfl, eB, ng1, ng2, hm⟩
  have sD : SeqAt.shaped (.list [.list ((["a", "y"] : List Str).map PyData.str), .list (dnL.map PyData.str), .list ((["b"] : List Str).map PyData.str)]) = true := by decide +kernel
  have qD : (!PyData.eqv (.list [.list ((["a", "y"] : List Str).map PyData.str), .list (dnL.map PyData.str), .list ((["b"] : List Str).map PyData.str)]) (.list [.list ((["a", "y"] : List Str).map PyData.str), .list (dnL.map PyData.str), .list ((["b"] : List Str).map PyData.str)])) = false := by decide +kernel
  have gr := el_grp (CN := CN) (n := n) (E := E0) (i := 2) (ty := tC (.str "y")) (σ := [some (.str abc), some (.ref ln), some (.ref x), some (.ref y), y4, y5, none, none]) rfl (fun _ _ => ev_c) ng1.nd hn1 (by decide +kernel)
  rw [dn_grp ng1.nd.ok hm (by decide +kernel)] at gr
  refine q_when (b := false) (et_is (et_neD
    (evd_lst (evda_cons (evd_ofLD (el_pathS (p := ["a", "y"]) rfl (fun _ _ => ev_c) (fun _ _ => ev_c) ng1.nd hn1 (by decide +kernel) (by decide +kernel) (dn_path ng1.nd.ok hm (by decide +kernel) (by decide +kernel) (by decide +kernel))) fun _ => dts_strs ["a", "y"])
      (evda_cons (evd_ofLD gr fun _ => dts_strs dnL) (evda_cons (evd_ofLD (el_cycS (p := ["b"]) rfl (fun _ _ => ev_c) ng1.nd hn1 (by decide +kernel) (dn_cyc ng1.nd.ok hm (by decide +kernel))) fun _ => dts_strs ["b"]) evda_nil))) (by show 3 ≤ 1000; decide))
    (evd_lst (evda_cons (evd_lst (evda_cons (evd_of ev_c (.str _)) (evda_cons (evd_of ev_c (.str _)) evda_nil)) (by show 2 ≤ 1000; decide)) (evda_cons (evd_var rfl (.lst (eB _ _ hl4) (dts_strs dnL))) (evda_cons (evd_lst (evda_cons (evd_of ev_c (.str _)) evda_nil) (by show 1 ≤ 1000; decide)) evda_nil))) (by show 3 ≤ 1000; decide)) sD sD) qD) (fun z => nomatch z) (fun _ H8 e8 => ?_)
  have eB := eB.trans e8
  have ng2 := ng2.ex e8
  clear gr hm ng1 e8 n1 n2 sD qD
  -- the ring's names
  have lc1 := el_lcW (wi := iRng1 (tCons (tC (.int 60)) tNil)) (g := gName 7) (tt := tYes) (te := tOp _ (tOp rIxS (tVar 0) (tOp (rI CDiv fun i j => .int (i / j)) (tVar 7) (tC (.int 26)))) (tOp rIxS (tVar 0) (tOp (rI (fun _ j => 0 < j) fun i j => .int (i % j)) (tVar 7) (tC (.int 26))))) (vs := [7])
    (σ := [some (.str abc), some (.ref ln), some (.ref x), some (.ref y), y4, y5, none, none]) (H := H8) (n := 60) (Y := YFn fun i => .int (0 + i)) (fun _ => true) (fun i => .str (rn i)) (by decide)
    (fun H6 e6 R r => ⟨60, rfl, by decide, by decide, r H6 _ _ walk_range (fun _ _ _ z => z) (Ex.refl H6) trivial⟩)
    (fun i y' H6 H7 e6 hi hy => by
      obtain ⟨rfl, rfl⟩ := hy
      refine ⟨Ex.refl _, [some (.str abc), some (.ref ln), some (.ref x), some (.ref y), y4, y5, none, some (.int (0 + i))], rfl, fun R r => r, fun H8 _ Q q => q H8 (Ex.refl H8), fun _ => ?_⟩
      have e0 : (0 : Int) + (i : Int) = (i : Int) := Int.zero_add _
      rw [e0]
      have ed : ((i : Int) / 26) = ((i / 26 : Nat) : Int) := by omega
      have em : ((i : Int) % 26) = ((i % 26 : Nat) : Int) := by omega
      have i1 : i / 26 < 26 := by omega
      have i2 : i % 26 < 26 := by omega
      exact ev_op (r := fun x y H Q => ∃ i j, x = .str i ∧ y = .str j ∧ i.length + j.length ≤ sizeLine ∧ Q (.str (i ++ j)) H)
          (ev_op (ev_var rfl) (ev_op (ev_var rfl) ev_c (rv_I ⟨by decide, by decide⟩)) (rv_ixS (by decide +kernel) (by rw [ed]; exact atI_nat (abc_get _ i1))))
          (ev_op (ev_var rfl) (ev_op (ev_var rfl) ev_c (rv_I (C := fun _ j => 0 < j) (by decide))) (rv_ixS (by decide +kernel) (by rw [em]; exact atI_nat (abc_get _ i2))))
          (rv_val fun H8 _ Q q => ⟨_, _, rfl, rfl, by show 2 ≤ sizeLine; decide, q⟩))
  have eg1 : given 60 (fun _ => true) (fun i => V.str (rn i)) = rnL.map V.str := by
    rw [given_all]
    unfold rnL
    exact (List.map_map (f := rn) (g := V.str) (l := List.range 60)).symm
  rw [eg1] at lc1
  refine q_asgL lc1 fun la H9 zla e9 hla => ?_
  have eB := eB.trans e9
  have nla : la ≠ A2.dd := ne_of_none ng2.nd.di zla |>.symm
  have ng2 := ng2.ex e9
  clear lc1 eg1 e9 zla
  show tCut _ _ _ [some (.str abc), some (.ref ln), some (.ref x), some (.ref y), y4, y5, some (.ref la), none] H9
  have c1 := cut_from rnL 1 (by rw [rn_len]; decide)
  have c2 := cut_to rnL 1 (by rw [rn_len]; decide)
  have c7 := cut_from rnL 7 (by rw [rn_len]; decide)
  have c8 := cut_to rnL 7 (by rw [rn_len]; decide)
  have c31 : cutV (rnL.map V.str) none (some 31) = (rnL.take 31).map V.str := cut_to rnL 31 (by rw [rn_len]; decide)
  have cutE : ∀ {σ : L2.St} {Hc : Hp} (k : Nat), k ≤ 60 → σ[6]? = some (some (.ref la)) → Hc la = some (.lst (rnL.map V.str)) → EvL (tOp rCat (tSl (rSlL K) (tVar 6) (tPart (tC (.int (k : Int)))) tNoPart) (tSl (rSlL K) (tVar 6) tNoPart (tPart (tC (.int (k : Int)))))) σ Hc ((rnL.drop k ++ rnL.take k).map V.str) := fun {σ Hc} k hk h6 hc => by
    rw [List.map_append, ← cut_from rnL k (by rw [rn_len]; exact hk), ← cut_to rnL k (by rw [rn_len]; exact hk)]
    refine el_cat (el_sl (ev_var h6) (eo_some ev_c) eo_none (sq_of hc)) (el_sl (ev_var h6) eo_none (eo_some ev_c) (sq_of hc)) ?_
    rw [cut_from rnL k (by rw [rn_len]; exact hk), cut_to rnL k (by rw [rn_len]; exact hk), List.length_map, List.length_map, List.length_drop, List.length_take, rn_len]
    omega
  refine q_cut (M := fun σ H' => ∃ (y4 y5 : Option V) (g : List Row), σ = [some (.str abc), some (.ref ln), some (.ref x), some (.ref y), y4, y5, some (.ref la), none] ∧ Ex HB H' ∧ H' la = some (.lst (rnL.map V.str)) ∧ NewG C HB H' y A2 rnL g ∧ ∀ q : Pr, q.2 ∈ tgS g q.1 ↔ q ∈ rnP) ?_ ?_
  · refine ⟨.ref la, rfl, cutE 1 (by decide) rfl hla H9 (Ex.refl H9) _ fun lb H10 zlb e10 hlb => ⟨la, lb, _, _, rfl, sq_of (e10 _ _ hla), sq_of hlb, ?_⟩⟩
    have nlb : lb ≠ A2.dd := ne_of_none ng2.nd.di zlb |>.symm
    refine for_it (walk_zip (xs := rnL.map V.str) (ys := (rnL.drop 1 ++ rnL.take 1).map V.str) (n := 60) (by decide +kernel)) (fun j σ H' => ∃ (y4 y5 : Option V) (g : List Row), σ = [some (.str abc), some (.ref ln), some (.ref x), some (.ref y), y4, y5, some (.ref la), none] ∧ Ex HB H' ∧ H' la = some (.lst (rnL.map V.str)) ∧ H' lb = some (.lst ((rnL.drop 1 ++ rnL.take 1).map V.str)) ∧ NewG C HB H' y A2 rnL g ∧ ∀ q : Pr, q.2 ∈ tgS g q.1 ↔ q ∈ rnP.take j) ⟨y4, y5, [], rfl, eB.trans e10, e10 _ _ hla, hlb, ng2.ex e10, fun q => by simp [tgS, rowOf]⟩ (fun j σ H' _ h => ?_) (fun j v σ H11 H12 hj h hy => ?_) (fun σ H' h => ?_)
    · obtain ⟨_, _, _, _, _, h1, h2, _⟩ := h
      exact ⟨sq_of h1, sq_of h2⟩
    rotate_left
    · obtain ⟨y4, y5, g, rfl, e, h1, h2, ng, hm⟩ := h
      rw [List.take_of_length_le (by rw [rnP_len]; exact Nat.le_refl _)] at hm
      exact ⟨y4, y5, g, rfl, e, h1, ng, hm⟩
    obtain ⟨y4, y5, g, rfl, e11, h1, h2, ng, hm⟩ := h
    obtain ⟨T, a, b, rfl, zT, rfl, hx, hy⟩ := hy
    have hx : (rnL.map V.str)[j]? = some a := hx
    have hy : ((rnL.drop 1 ++ rnL.take 1).map V.str)[j]? = some b := hy
    rw [List.getElem?_map, rn_at hj] at hx
    rw [List.getElem?_map, rr_at hj] at hy
    cases hx
    cases hy
    have eT : Ex H11 (upd H11 T (.tup [.str (rn j), .str (rn ((j + 1) % 60))])) := Ex.new zT
    refine ⟨T, [.str (rn j), .str (rn ((j + 1) % 60))], rfl, st_of upd_same, rfl, .str (rn j), [.str (rn ((j + 1) % 60))], rfl, .str (rn ((j + 1) % 60)), [], rfl, rfl, ?_⟩
    generalize upd H11 T (.tup [.str (rn j), .str (rn ((j + 1) % 60))]) = H12 at eT
    show tDrop _ _ [some (.str abc), some (.ref ln), some (.ref x), some (.ref y), some (.str (rn j)), some (.str (rn ((j + 1) % 60))), some (.ref la), none] H12
    have ngT := ng.ex eT
    refine ⟨.ref y, rfl, y, A2.dx, _, rfl, ngT.nd.ob, rfl, .str (rn j), rfl, .str (rn ((j + 1) % 60)), rfl, ?_⟩
    dsimp only [tNil]
    refine rec_of ngT.nd hn1 (rn_mem hj) (rn_mem (Nat.mod_lt _ (by decide))) fun b9 g9 H13 bu9 nd9 hm9 hr9 => ?_
    have e12 := e11.trans eT
    have e13 : Ex HB H13 := fun o z h => bu9 o z (fun m => by rw [List.mem_singleton.mp m, ngT.zd] at h; cases h) (e12 o z h)
    refine ⟨_, _, g9, rfl, e13, bu9 _ _ (fun m => nla (List.mem_singleton.mp m)) (eT _ _ h1), bu9 _ _ (fun m => nlb (List.mem_singleton.mp m)) (eT _ _ h2), ⟨nd9, ng.zx, ng.zd, fun r hr => ?_⟩, fun q' => (hm9 q').trans ?_⟩
    · rcases hr9 r hr with h | h
      · exact ng.za r h
      · exact fresh_back e12 h
    · rw [hm q', take_memB (rnP_at hj)]
      exact or_comm
  clear eB ng2 hla
  rintro σ H10 ⟨y4, y5, g, rfl, eB, hla, ng, hm⟩
  have sR : ∀ {l : List Str}, (∀ z ∈ l, z ∈ rnL) → SeqAt.shaped (.list (l.map PyData.str)) = true := fun h => strs_shaped fun z hz => rn_name z (h z hz)
  have qR : ∀ {l : List Str}, (∀ z ∈ l, z ∈ rnL) → PyData.eqv (.list (l.map PyData.str)) (.list (l.map PyData.str)) = true := fun h => SeqAt.eqv_refl _ (lay_strs fun z hz => rn_name z (h z hz)).1
  have ix : ∀ {σ : L2.St} {Hc : Hp} (j : Nat), j < 60 → σ[6]? = some (some (.ref la)) → Hc la = some (.lst (rnL.map V.str)) → Ev (tOp (rIxL K) (tVar 6) (tC (.int (j : Int)))) σ Hc (.str (rn j)) := fun j hj h6 hc => ev_op (ev_var h6) ev_c (rv_ixL (sq_of hc) (atI_nat (by rw [List.getElem?_map, rn_at hj]; rfl)))
  have lst : lastP rnL = rn 59 := by decide +kernel
  have ixl : ∀ {σ : L2.St} {Hc : Hp}, σ[6]? = some (some (.ref la)) → Hc la = some (.lst (rnL.map V.str)) → Ev (tOp (rIxL K) (tVar 6) (tUn (rU fun i => V.int (-i)) (tC (V.int 1)))) σ Hc (.str (rn 59)) := fun h6 hc => by
    have z := ev_lastB (K := K) h6 hc (fun e => by rw [e] at lst; exact absurd (congrArg List.length e) (by rw [rn_len]; decide))
    rw [lst] at z
    exact z
  have rp := ring_path ng.nd.ok hm
  have rc := ring_cyc ng.nd.ok hm
  rw [chn_all] at rp
  rw [chn_seven] at rc
  have in7 : ∀ z ∈ rnL.drop 7 ++ rnL.take 7, z ∈ rnL := fun z hz => by
    rcases List.mem_append.mp hz with h | h
    · exact List.mem_of_mem_drop h
    · exact List.mem_of_mem_take h
  have n0 : isNameS (rn 0) = true := rn_name _ (rn_mem (by decide))
  have n59 : isNameS (rn 59) = true := rn_name _ (rn_mem (by decide))
  have n7 : isNameS (rn 7) = true := rn_name _ (rn_mem (by decide))
  refine q_when (b := false) (et_is (et_or (b := false) (et_is (et_neD (evd_ofLD (el_pathS (p := rnL) rfl (fun _ e => ix 0 (by decide) rfl (e _ _ hla)) (fun _ e => ixl rfl (e _ _ hla)) ng.nd hn1 n0 n59 rp) fun _ => dts_strs rnL) (evd_var rfl (.lst hla (dts_strs rnL))) (sR fun _ h => h) (sR fun _ h => h)) (congrArg not (qR fun _ h => h))) fun _ =>
    et_is (et_neD (evd_ofLD (el_cycS (p := rnL.drop 7 ++ rnL.take 7) rfl (fun _ e => ix 7 (by decide) rfl (e _ _ hla)) ng.nd hn1 n7 rc) fun _ => dts_strs _) (evd_ofLD (cutE 7 (by decide) rfl hla) fun _ => dts_strs _) (sR in7) (sR in7)) (congrArg not (qR in7))) rfl) (fun z => nomatch z) (fun _ H11 e11 => ?_)
  have eB := eB.trans e11
  have ng := ng.ex e11
  have hla := e11 _ _ hla
  clear rp rc e11
  refine q_dropAny ⟨.ref y, rfl, y, A2.dx, _, rfl, ng.nd.ob, rfl, ix 30 (by decide) rfl hla H11 (Ex.refl H11) _ fun H12 e12 => ?_⟩
  dsimp only [tNil]
  refine delAll_of (ng.nd.ex e12) (rn_name _ (rn_mem (by decide))) fun g' H13 bu nd' hm' hr' => ?_
  have eB' : Ex HB H13 := fun o z h => bu o z (fun m => by rw [List.mem_singleton.mp m, ng.zd] at h; cases h) (e12 _ _ (eB o z h))
  have hla' := bu _ _ (fun m => nla (List.mem_singleton.mp m)) (e12 _ _ hla)
  have hm2 : ∀ q : Pr, q.2 ∈ tgS g' q.1 ↔ (q ∈ rnP ∧ q.1 ≠ rn 30) := fun q => by rw [hm' q, hm q]
  have cl := el_clo (CN := CN) (n := n) (E := E0) (i := 3) (ty := tC (.str "aa")) (σ := [some (.str abc), some (.ref ln), some (.ref x), some (.ref y), y4, y5, some (.ref la), none]) rfl (fun _ _ => ev_c) nd' hn1 (by decide +kernel)
  have e00 : ("aa" : Str) = rn 0 := by decide +kernel
  rw [e00, cut_clo nd'.ok hm2, ← e00] at cl
  have in31 : ∀ z ∈ srtS (rnL.take 31), z ∈ rnL := fun z hz => List.mem_of_mem_take ((srtS_perm _).mem_iff.mp hz)
  have sl := el_sl (K := K) (te := tVar 6) (tl := tNoPart) (th := tPart (tC (V.int 31))) (σ := [some (.str abc), some (.ref ln), some (.ref x), some (.ref y), y4, y5, some (.ref la), none]) (H := H13) (ev_var rfl) eo_none (eo_some ev_c) (sq_of hla')
  rw [c31] at sl
  have ac := ev_acyS (i := 3) (E := E0) (σ := [some (.str abc), some (.ref ln), some (.ref x), some (.ref y), y4, y5, some (.ref la), none]) rfl nd'
  rw [cut_acy nd'.ok hm2] at ac
  refine s_ret (ev_is (ev_andV (a := true) (b := true) (ev_op (ev_pathN rfl (fun _ e => ix 0 (by decide) rfl (e _ _ hla')) (fun _ e => ixl rfl (e _ _ hla')) nd' hn1 n0 n59 (cut_none nd'.ok hm2)) ev_c fun H1 _ Q q => ⟨rfl, q H1 (Ex.refl H1)⟩) fun _ => ev_is (ev_andV (a := true) (b := true) ac fun _ => ev_is (ev_eqD (evd_ofLD cl fun _ => dts_strs _) (evd_ofLD (el_sortS sl (by rw [List.length_take, rn_len]; decide)) fun _ => dts_strs _) (sR in31) (sR in31)) (congrArg V.bl (qR in31))) rfl) rfl) fun H14 e14 => q H14 ((e4.trans eB').trans e14)
end
end Cr
/-! k24: the law -/
namespace Cr
open PySem PySem.Spec PyProof.Rows L2 Evl
abbrev sLaw : Stmt := topS 26
abbrev nLaw : List Str := ["_law_script", "_law_index", "_law_pot_here", "_law_names", "_law_rows", "_law_made", "_law_cut", "_law_row"]
theorem scLaw : FnScope nLaw ["_law_script"] (defScope sLaw) := ⟨rfl, rfl, rfl, by decide +kernel, rfl, by decide +kernel, by decide +kernel⟩
def spLaw (K : PySem.W.Frag) : Sp := fun vs H Q _ => ∃ (a : Addr) (ns : List Int), vs = [.ref a] ∧ SqL K H a (ns.map V.int) ∧ ns.length ≤ 63 ∧ ∀ H', Q (.bl true) H'
theorem NdAt.more {C x : Addr} {A : NdA} {U : List Str} {g : List Row} {H : Hp} {s : Str} (h : NdAt C H x A U g) (hs : isNameS s = true) (hl : U.length ≤ 61) : NdAt C H x A (U ++ [s]) g :=
  ⟨h.ob, h.di, h.ls, ⟨fun y hy => (List.mem_append.mp hy).elim (h.ok.un y) fun z => by rw [List.mem_singleton.mp z]; exact hs, by rw [List.length_append]; show U.length + 1 ≤ 62; omega, h.ok.keys, h.ok.ads, fun r hr => List.mem_append_left _ (h.ok.nm r hr), h.ok.ne, h.ok.up, fun r hr t ht => List.mem_append_left _ (h.ok.tn r hr t ht)⟩⟩
section
variable {P : Program} {w : World} {K : PySem.W.Frag} {mg : Str → Option Value} {base : Heap}
theorem ok_law {f C CN : Addr} {fd : FuncData} {k n : Nat} (F : Fun K "law" "law" sLaw f fd) (B : Blt mg) (N : NdC K mg C) (hn1 : 1 ≤ n) (h1 : Has P w K mg base k "_law_pot" ["_law_script", "_law_index"] (spPot K)) (h2 : Has P w K mg base k "_law_net" ["_law_pot_here", "_law_most"] spNet) (h3 : Has P w K mg base k "_law_filled" ["_law_rows"] (spFilled C)) (h4 : Has P w K mg base k "_law_word" ["_law_pot_here", "_law_used"] spWord)
    (h5 : Has P w K mg base k "_law_stands" ["_law_made", "_law_names", "_law_rows"] (spSta C)) (h6 : Has P w K mg base k "_law_choice" ["_law_pot_here", "_law_options"] spChoice) (h7 : HasM P w K mg base CX0 k C "delete_all" ["self", "source"] (spDelAll C)) (h0 : Has P w K mg base k "_law_large_right" [] spLR) :
    FnG P w K mg base CX0 (k + 1) f fd ["_law_script"] (spLaw K) := by
  obtain ⟨f0, d0, G0, b0, k0, g0⟩ := h0.ex
  obtain ⟨f1, d1, G1, b1, k1, g1⟩ := h1.ex
  obtain ⟨f2, d2, G2, b2, k2, g2⟩ := h2.ex
  obtain ⟨f3, d3, G3, b3, k3, g3⟩ := h3.ex
  obtain ⟨f4, d4, G4, b4, k4, g4⟩ := h4.ex
  obtain ⟨f5, d5, G5, b5, k5, g5⟩ := h5.ex
  obtain ⟨f6, d6, G6, b6, k6, g6⟩ := h6.ex
  obtain ⟨f7, d7, G7, b7, m7⟩ := h7.ex
  refine okG F scLaw (fun vs H Q E h => by obtain ⟨_, _, rfl, _⟩ := h; rfl) (fun cdv A outer s H vs Q E hq hr h => ?_)
  obtain ⟨a, is, rfl, hS, hl, q⟩ := h
  refine ⟨_, pss_cons (ps_if (pt_not (pt_val (call0G (E := E0) G0 hq hr (by rfl) g0 k0 b0 .nil pass0))) (pss_one (ps_ret pe_bl)) pss_nil)
    (pss_cons (ps_for PassesOwn.never rfl (pi_range1 (by rfl) B.range (pa_cons (pe_callB (call_max2 rfl) (by rfl) B.max bMax (pa_cons pe_int (pa_cons (pe_callB (call_min2 rfl) (by rfl) B.min bMin (pa_cons (pe_callB call_len_seq (by rfl) B.len bLen (pa_cons (pv 0) pa_nil)) (pa_cons pe_int pa_nil))) pa_nil))) pa_nil)) (pg_name (i := 1) scLaw.nd rfl (.inl rfl))
      (pss_cons (ps_set (i := 2) scLaw.nd rfl (.inl rfl) (callG (E := E0) G1 hq hr (by rfl) g1 k1 b1 .nil pass0 (pa_cons (pv 0) (pa_cons (pv 1) pa_nil))))
      (pss_cons (ps_asg (callG (E := E0) G2 hq hr (by rfl) g2 k2 b2 .nil pass0 (pa_cons (pv 2) (pa_cons pe_int pa_nil))) (pg_tup rfl (pgs_cons (pg_name (i := 3) scLaw.nd rfl (.inl rfl)) (pgs_cons (pg_name (i := 4) scLaw.nd rfl (.inl rfl)) pgs_nil))))
      (pss_cons (ps_par (i := 5) (j := 3) (by rfl) scLaw.nd rfl rfl (by decide) rfl rfl (pa_cons (callG (E := E0) G3 hq hr (by rfl) g3 k3 b3 .nil pass0 (pa_cons (pv 4) pa_nil)) (pa_cons (pe_op op_cat (pv 3) (pe_lst (pa_cons (callG (E := E0) G4 hq hr (by rfl) g4 k4 b4 .nil pass0 (pa_cons (pv 2) (pa_cons (pv 3) pa_nil))) pa_nil))) pa_nil)) (by rfl))
      (pss_cons (ps_if (pt_not (pt_val (callG (E := E0) G5 hq hr (by rfl) g5 k5 b5 .nil pass0 (pa_cons (pv 5) (pa_cons (pv 3) (pa_cons (pv 4) pa_nil)))))) (pss_one (ps_ret pe_bl)) pss_nil)
      (pss_cons (ps_set (i := 6) scLaw.nd rfl (.inr rfl) (callG (E := E0) G6 hq hr (by rfl) g6 k6 b6 .nil pass0 (pa_cons (pv 2) (pa_cons (pv 3) pa_nil))))
      (pss_cons (ps_expr (pe_meth (E := E0) (pv 5) N.cl m7 G7 hr b7 .nil pass0 (pa_cons (pv 6) pa_nil)))
      (pss_one (ps_if (pt_not (pt_val (callG (E := E0) G5 hq hr (by rfl) g5 k5 b5 .nil pass0 (pa_cons (pv 5) (pa_cons (pv 3) (pa_cons (pe_lc (own := [("_law_row", 7)]) (g := gName 7) (tt := tTest (tOp rNe (tOp (rIxT K) (tVar 7) (tC (.int 0))) (tVar 6))) (te := tVar 7) rfl scLaw.nd (pi_list (pv 4)) (blkOk_by (own := [("_law_row", 7)]) (N := nLaw) (sc := defScope sLaw) (by decide +kernel))
            (fun _ _ _ _ _ => pg_name (i := 7) scLaw.nd rfl (Or.inl rfl)) (fun _ _ _ _ _ => by exact pts_one (pt_cmpR op_ne (pe_ix ix_tup (pv 7) pe_int (fun _ _ => rfl)) (pv 6) (nomark _))) (fun _ _ _ _ _ => pv 7)) pa_nil)))))) (pss_one (ps_ret pe_bl)) pss_nil)))))))))
    (pss_one (ps_ret pe_bl))), ?_⟩
  let mn : Int := if (6 : Int) < (((is.map V.int).length : Nat) : Int) then 6 else (((is.map V.int).length : Nat) : Int)
  let mx : Int := if mn > 1 then mn else 1
  have hmn : 0 ≤ mn ∧ mn ≤ 6 := by
    show 0 ≤ (if (6 : Int) < (((is.map V.int).length : Nat) : Int) then 6 else (((is.map V.int).length : Nat) : Int)) ∧ (if (6 : Int) < (((is.map V.int).length : Nat) : Int) then 6 else (((is.map V.int).length : Nat) : Int)) ≤ 6
    split <;> omega
  have hmx : 1 ≤ mx ∧ mx ≤ 6 := by
    show 1 ≤ (if mn > 1 then mn else 1) ∧ (if mn > 1 then mn else 1) ≤ 6
    split <;> omega
  have big : Ev (tCall spLR [] E0 tNil) [some (.ref a), none, none, none, none, none, none, none] H (.bl true) := fun H1 e Q' q' => ⟨rfl, fun H' e' => q' H' e'⟩
  refine q_when (b := false) (et_is (et_not (et_B big)) rfl) (fun z => nomatch z) (fun _ H0 e0 => ?_)
  have hS := ex_l e0 hS
  clear e0 big
  refine ⟨.ref a, rfl, a, _, rfl, .inl hS, _, 6, rfl, 1, mn, rfl, mx, rfl, by omega, by omega, for_range (lo := 0) (n := mx.toNat) (fun i σ' H' => (∃ (y1 y2 y3 y4 y5 y6 : Option V), σ' = [some (.ref a), y1, y2, y3, y4, y5, y6, none]) ∧ Ex H0 H') ⟨⟨none, none, none, none, none, none, rfl⟩, Ex.refl H0⟩ ?_ (fun σ' H' h => ?_)⟩
  rotate_left
  · obtain ⟨⟨_, _, _, _, _, _, rfl⟩, _⟩ := h
    exact q H'
  rintro i σ' H1 hi ⟨⟨y1, y2, y3, y4, y5, y6, rfl⟩, e1⟩
  show tSeq _ _ _ [some (.ref a), some (.int ((0 : Int) + i)), y2, y3, y4, y5, y6, none] H1
  have hS1 := ex_l e1 hS
  refine ⟨.ref a, rfl, .int ((0 : Int) + i), rfl, a, is, i, by rw [Int.zero_add]; rfl, hS1, by omega, fun p H2 hp e2 pot2 => ?_⟩
  -- the graph
  refine ⟨.ref p, rfl, p, 9, rfl, pot2, by omega, by omega, fun T ln lr ns ps HB H3 r1 hlB nln n0 n9 nd0 hns r2 zlr hT hps dis inU => ⟨T, [.ref ln, .ref lr], rfl, st_of hT, rfl, .ref ln, [.ref lr], rfl, .ref lr, [], rfl, rfl, ?_⟩⟩
  have potB := r1.pot
  show tSeq _ _ _ [some (.ref a), some (.int ((0 : Int) + i)), some (.ref p), some (.ref ln), some (.ref lr), y5, y6, none] H3
  refine ⟨.ref lr, rfl, lr, ps, ns, rfl, dt_wo hps, inU, hns, by omega, fun x A' g H4 e4 ng hm => ⟨.ref ln, rfl, .ref p, rfl, .ref ln, rfl, p, ln, ns, rfl, r2.pot.ex e4, nln, e4 _ _ (r2.at nln hlB), by omega, fun sp H5 spo spn r5 => ⟨by show 1 ≤ sizeLine; decide, fun l1 z1 => ?_⟩⟩⟩
  have K4 : Kp C HB H4 p x lr A' g ns ps := ⟨ng.back r2 potB, r2.trans (Drew.of r2.pot e4), (Drew.of r2.pot e4).dt hps, dis, hm, zlr⟩
  have K5 := K4.drew r5
  have hl5 := K5.dr.at nln hlB
  have K6 := K5.ex (Ex.new (o := .lst [.str sp]) z1)
  have hl6 := (Ex.new (o := .lst [.str sp]) z1) _ _ hl5
  refine ⟨ln, l1, ns.map V.str, [.str sp], rfl, rfl, hl6, upd_same, by rw [List.length_map]; show ns.length + 1 ≤ _; have : 11 ≤ sizeLine := (by decide); omega, fun d zd => ⟨.ref x, .ref d, rfl, ?_⟩⟩
  have nd : d ≠ p := K6.dr.neq zd
  have ndd : d ≠ A'.dd := (ne_of_none K6.ng.nd.di zd).symm
  have K7 := K6.ex (Ex.new (o := .lst (ns.map V.str ++ [.str sp])) zd)
  have hd7 : (upd (upd H5 l1 (.lst [.str sp])) d (.lst (ns.map V.str ++ [.str sp]))) d = some (.lst ((ns ++ [sp]).map V.str)) := by rw [upd_same, List.map_append]; rfl
  have out : ∀ {Hc : Hp}, Drew p HB Hc → Ex H0 Hc := fun {Hc} r b o hb => (r1.trans r).at (ne_of_none (e1 b o hb) hp) (e2 b o (e1 b o hb))
  generalize (upd (upd H5 l1 (.lst [.str sp])) d (.lst (ns.map V.str ++ [.str sp]))) = H7 at K7 hd7
  clear ng hm hT hps r5 K4 K5 K6 e4 r2 hl5 hl6 z1 zd hlB
  dsimp only
  show tSeq _ _ _ [some (.ref a), some (.int ((0 : Int) + i)), some (.ref p), some (.ref d), some (.ref lr), some (.ref x), y6, none] H7
  have lU : (ns ++ [sp]).length ≤ 10 := by rw [List.length_append]; show ns.length + 1 ≤ 10; omega
  have lU0 : 0 < (ns ++ [sp]).length := by rw [List.length_append]; show 0 < ns.length + 1; omega
  have few := K7.few9 n9
  have st1 : Ev (tCall (spSta C) [] E0 (tCons (tVar 5) (tCons (tVar 3) (tCons (tVar 4) tNil)))) [some (.ref a), some (.int ((0 : Int) + i)), some (.ref p), some (.ref d), some (.ref lr), some (.ref x), y6, none] H7 (.bl true) := fun Hd e Q' q' =>
    ⟨.ref x, rfl, .ref d, rfl, .ref lr, rfl, x, d, lr, A', g, ns ++ [sp], ps, rfl, (K7.ng.nd.ex e).more spo (by omega), e _ _ hd7, Dt.ex e (dt_wo K7.hp), K7.dis, by omega, K7.hm, lU0, lU, q'⟩
  refine q_when (b := false) (et_is (et_not (et_B st1)) rfl) (fun z => nomatch z) (fun _ H8 e8 => ?_)
  have K8 := K7.ex e8
  have hd8 := e8 _ _ hd7
  clear st1 K7 hd7 e8
  refine q_asgAny ?_
  refine ⟨.ref p, rfl, .ref d, rfl, p, K8.dr.pot, .inl ⟨d, _, rfl, nd, hd8, by rw [List.length_map]; exact lU0, by rw [List.length_map]; omega, fun v H9 hv r9 => ?_⟩⟩
  obtain ⟨cut, hc, rfl⟩ := List.mem_map.mp hv
  have K9 := K8.drew r9
  have hd9 := r9.at nd hd8
  have cn : isNameS cut = true := (List.mem_append.mp hc).elim (hns cut) fun z => by rw [List.mem_singleton.mp z]; exact spo
  show tSeq (tDrop _) _ _ [some (.ref a), some (.int ((0 : Int) + i)), some (.ref p), some (.ref d), some (.ref lr), some (.ref x), some (.str cut), none] H9
  refine q_dropAny ?_
  refine ⟨.ref x, rfl, x, A'.dx, _, rfl, K9.ng.nd.ob, rfl, .str cut, rfl, ?_⟩
  dsimp only [tNil]
  refine delAll_of K9.ng.nd cn fun g' H10 bu nd' hm' hr' => ?_
  obtain ⟨ng10, dr10, hp10⟩ := K9.chg potB bu (fun z hz => .inl (List.mem_singleton.mp hz)) nd' (fun r hr => .inl ⟨r, hr' r hr, rfl⟩)
  have hd10 := bu _ _ (fun m => ndd (List.mem_singleton.mp m)) hd9
  have flE := evdf_fstB (K := K) (tl := tVar 4) (tb := tVar 6) (r := rNe) (σ := [some (.ref a), some (.int ((0 : Int) + i)), some (.ref p), some (.ref d), some (.ref lr), some (.ref x), some (.str cut), none]) (H := H10) (j := 7) (lp := lr) (ps := ps) (nm := cut) true (fun s t H => rv_ne rfl) (ev_var rfl) (dt_wo hp10) (by omega) (fun _ => rfl) (by show 7 < 8; decide) rfl (fun _ _ _ => ev_var rfl)
  have hm2 : ∀ q : Pr, q.2 ∈ tgS g' q.1 ↔ q ∈ ps.filter (fun q => if true then decide (q.1 ≠ cut) else decide (q.1 = cut)) := fun q => by
    rw [List.mem_filter, hm' q, K9.hm q]
    show _ ↔ (q ∈ ps ∧ decide (q.1 ≠ cut) = true)
    rw [decide_eq_true_iff]
  have st2 : Ev (tCall (spSta C) [] E0 (tCons (tVar 5) (tCons (tVar 3) (tCons (tLc (iList K (tVar 4)) (gName 7) (tTest (tOp rNe (tOp (rIxT K) (tVar 7) (tC (.int 0))) (tVar 6))) (tVar 7) [7]) tNil)))) [some (.ref a), some (.int ((0 : Int) + i)), some (.ref p), some (.ref d), some (.ref lr), some (.ref x), some (.str cut), none] H10 (.bl true) := fun Hd e Q' q' => by
    refine ⟨.ref x, rfl, .ref d, rfl, ?_⟩
    refine flE Hd e _ fun l9 H11 z9 e9 hv9 => ?_
    exact ⟨x, d, l9, A', g', ns ++ [sp], _, rfl, (nd'.ex (e.trans e9)).more spo (by omega), (e.trans e9) _ _ hd10, hv9, K9.dis.filter _, Nat.le_trans (List.length_filter_le _ _) (by omega), hm2, lU0, lU, fun H' e' => q' H' (e9.trans e')⟩
  refine s_when (b := false) (et_is (et_not (et_B st2)) rfl) (fun z => nomatch z) (fun _ H11 e11 => ?_)
  exact ⟨⟨_, _, _, _, _, _, rfl⟩, out (dr10.trans (Drew.of dr10.pot e11))⟩
end
end Cr
/-! k24: what the top has left, gathered -/
namespace Cr
open PySem PySem.Spec PyProof.Rows L2 Evl
theorem all_mk {P : Program} {w : World} {K : PySem.W.Frag} {mg : Str → Option Value} {h : Heap} {fa CN C : Addr} {tL : Tok} (X : K.In h) (G : h.Ns mainGlobals mg) (hfa : mg "law" = some (.ref fa)) (B : Blt mg)
    (v1 : PySem.W.nsIn K mainGlobals "LONGEST_NAME" = some (some (.int 8 tL)))
    (c0 : PySem.W.nsIn K mainGlobals "InvalidName" = some (some (.ref CN))) (e0 : ErrK P K CN xbV "InvalidName.__init__" "value" sIInvalidName)
    (cF : PySem.W.nsIn K mainGlobals "Needs" = some (some (.ref C))) (kF : Cls K C) (mF : PySem.W.makesIn K C = true) (pF : PySem.W.keepIn K (.ref C) = true) (nN : NoAttr K C "needed")
    (dName : DefAt K "is_name" sIsName) (dBW : DefAt K "bare_word" sBareW) (dCop : DefAt K "copied" sCopied) (dChk : DefAt K "check_name" sCheckN)
    (mI : MethAt K C "__init__" "Needs.__init__" sNInit) (mT : MethAt K C "targets" "Needs.targets" sNTarg) (mN : MethAt K C "is_need" "Needs.is_need" sNIs)
    (mR : MethAt K C "record" "Needs.record" sNRec) (mA : MethAt K C "delete_all" "Needs.delete_all" sNDelA) (mSh : MethAt K C "shortest_paths" "Needs.shortest_paths" sNSh) (mCl : MethAt K C "closure" "Needs.closure" sNClo) (mDe : MethAt K C "depends" "Needs.depends" sNDep) (mGr : MethAt K C "group" "Needs.group" sNGrp) (mCy : MethAt K C "cycle_through" "Needs.cycle_through" sNCyc) (mAc : MethAt K C "is_acyclic" "Needs.is_acyclic" sNAcy) (mPt : MethAt K C "path" "Needs.path" sNPath) (mPa : MethAt K C "pairs" "Needs.pairs" sNPairs)
    (dPot : DefAt K "_law_pot" sPot) (dDraw : DefAt K "_law_draw" sDraw) (dPick : DefAt K "_law_choice" sChoice) (dWord : DefAt K "_law_word" sWord1) (dWords : DefAt K "_law_words" sWords1) (dMix : DefAt K "_law_mixed" sMixed) (dNet : DefAt K "_law_net" sNet) (dFil : DefAt K "_law_filled" sFilled) (dDis : DefAt K "_law_distances" sDis) (dFst : DefAt K "_law_first" sFst) (dIsP : DefAt K "_law_is_path" sIsP) (dSt : DefAt K "_law_stands" sSta) (dLR : DefAt K "_law_large_right" sLR) (dLaw : DefAt K "law" sLaw) :
    ∃ fd : FuncData, (∀ (s : Shared) (v : Value), BindsTo s fd ⟨[v], []⟩ [("_law_script", v)]) ∧ ∀ base : Heap, K.In base → base.Ns mainGlobals mg → FnG P w K mg base CX0 11 fa fd ["_law_script"] (spLaw K) := by
  have gL := PySem.W.mg_of X G v1
  have T : NdC K mg C := ⟨kF, nN, PySem.W.mg_of X G cF⟩
  obtain ⟨fL, od, an, sl, oc, kV, dc, pm, cd, ct, aL, lL, cL, kL⟩ := dLaw
  have el := hfa.symm.trans (PySem.W.mg_of X G aL)
  cases el
  have FL := fun_mk (st := sLaw) lL cL kL
  refine ⟨PySem.W.fnOf "law" "law" (defArgs sLaw) (defBody sLaw) (defScope sLaw) .none kV dc pm an cd ct, fun s v => .of_eq rfl, fun base _ _ => ?_⟩
  have cp : HasO P w K mg base 3 "copied" ["value"] (spCopied 3) := copied_all X G dCop B 3
  obtain ⟨f0, fd0, E0'⟩ := errAt_of (mg := mg) X G c0 e0
  have MN : MkErr P w K mg base 4 CN "InvalidName" 1 (spInitC CN "value" 3) := mkErr_of E0' rfl (ok_iInvalidName E0' B cp) (fun _ _ _ _ _ _ _ us hl => match us, hl with | [_, _], _ => rfl)
  -- the program's defs
  have hName : HasO P w K mg base 1 "is_name" ["value"] (spD isName) := hasO_mk X G dName (fun _ _ _ _ _ _ us hl => match us, hl with | [_], _ => rfl) fun f fd F => ok_isName F B gL
  have hBW : HasO P w K mg base 1 "bare_word" ["word"] spBareW := hasO_mk X G dBW (fun _ _ _ _ _ _ us hl => match us, hl with | [_], _ => rfl) fun f fd F => ok_bareW F
  have hChk : HasE P w K mg base 6 "check_name" ["value"] (spCheckN CN 3) := hasE_mk X G dChk (fun _ _ _ _ _ _ us hl => match us, hl with | [_], _ => rfl) fun f fd F => ok_checkN (j := 4) F (by decide) MN (hName.up (by decide))
  -- the methods
  have hT : HasM P w K mg base CX0 2 C "targets" ["self", "name"] (spTargets C) := hasM_mk mT (fun _ _ _ _ _ _ us hl => match us, hl with | [_, _], _ => rfl) fun f fd F => ok_targets F B T hName
  have hN : HasM P w K mg base CX0 3 C "is_need" ["self", "source", "target"] (spIsNeed C) := hasM_mk mN (fun _ _ _ _ _ _ us hl => match us, hl with | [_, _, _], _ => rfl) fun f fd F => ok_isNeed F T (hName.up (by decide)) hT
  have hR : HasM P w K mg base (L2.CX P w) 7 C "record" ["self", "source", "target"] (spRecord C CN 3) := hasM_mk mR (fun _ _ _ _ _ _ us hl => match us, hl with | [_, _, _], _ => rfl) fun f fd F => ok_record F B T hChk (hBW.up (by decide)) (hT.up (by decide)) (hN.up (by decide))
  have hMk : ∀ j, MkN P w K mg base (j + 1) C := fun j => by
    obtain ⟨f, od, an, sl, oc, kV, dc, pm, cd, ct, a, i, l, c, kp, t⟩ := mI
    have F := fun_mk (st := sNInit) l c kp
    exact ⟨⟨f, _, ⟨mF, a, i, pF⟩, ok_ninit (k := j) F T, F.binds (fun _ _ _ _ _ _ us hl => match us, hl with | [_], _ => rfl)⟩⟩
  have lPot : Has P w K mg base 1 "_law_pot" ["_law_script", "_law_index"] (spPot K) := has_mk X G dPot (fun _ _ _ _ _ _ us hl => match us, hl with | [_, _], _ => rfl) fun f fd F => ok_pot F B
  have lDraw : Has P w K mg base 1 "_law_draw" ["_law_pot_here", "_law_bound"] spDraw := has_mk X G dDraw (fun _ _ _ _ _ _ us hl => match us, hl with | [_, _], _ => rfl) fun f fd F => ok_draw F B
  have lPick : Has P w K mg base 2 "_law_choice" ["_law_pot_here", "_law_options"] spChoice := has_mk X G dPick (fun _ _ _ _ _ _ us hl => match us, hl with | [_, _], _ => rfl) fun f fd F => ok_choice F B lDraw
  have lWord : Has P w K mg base 2 "_law_word" ["_law_pot_here", "_law_used"] spWord := has_mk X G dWord (fun _ _ _ _ _ _ us hl => match us, hl with | [_, _], _ => rfl) fun f fd F => ok_word1 F B lDraw
  have lWords : Has P w K mg base 3 "_law_words" ["_law_pot_here", "_law_number"] spWords := has_mk X G dWords (fun _ _ _ _ _ _ us hl => match us, hl with | [_, _], _ => rfl) fun f fd F => ok_words1 F B lWord
  have hSh : HasM P w K mg base CX0 3 C "shortest_paths" ["self", "name"] (spShort C) := hasM_mk mSh (fun _ _ _ _ _ _ us hl => match us, hl with | [_, _], _ => rfl) fun f fd F => ok_short F B T (hBW.up (by decide)) hT
  have hCl : HasM P w K mg base (L2.CX P w) 7 C "closure" ["self", "name"] (spClo C CN 3) := hasM_mk mCl (fun _ _ _ _ _ _ us hl => match us, hl with | [_, _], _ => rfl) fun f fd F => ok_clo F B T hChk (hSh.up (by decide))
  have hDe : HasM P w K mg base (L2.CX P w) 8 C "depends" ["self", "one", "other"] (spDep C CN 3) := hasM_mk mDe (fun _ _ _ _ _ _ us hl => match us, hl with | [_, _, _], _ => rfl) fun f fd F => ok_dep F B T (hChk.up (by decide)) hCl
  have lMix : Has P w K mg base 2 "_law_mixed" ["_law_pot_here", "_law_options"] spMixed := has_mk X G dMix (fun _ _ _ _ _ _ us hl => match us, hl with | [_, _], _ => rfl) fun f fd F => ok_mixed F B lDraw
  have lNet : Has P w K mg base 4 "_law_net" ["_law_pot_here", "_law_most"] spNet := has_mk X G dNet (fun _ _ _ _ _ _ us hl => match us, hl with | [_, _], _ => rfl) fun f fd F => ok_net F B (lDraw.up (by decide)) lWords (lMix.up (by decide))
  have lFil : Has P w K mg base 8 "_law_filled" ["_law_rows"] (spFilled C) := has_mk X G dFil (fun _ _ _ _ _ _ us hl => match us, hl with | [_], _ => rfl) fun f fd F => ok_filled (k := 7) F T (by decide) (by decide) (hMk 5) hR
  have hA : HasM P w K mg base CX0 3 C "delete_all" ["self", "source"] (spDelAll C) := hasM_mk mA (fun _ _ _ _ _ _ us hl => match us, hl with | [_, _], _ => rfl) fun f fd F => ok_delAll F B T hT
  have hP : HasM P w K mg base CX0 1 C "pairs" ["self"] (spPairs C) := hasM_mk mPa (fun _ _ _ _ _ _ us hl => match us, hl with | [_], _ => rfl) fun f fd F => ok_pairs F B T
  have hPt : HasM P w K mg base (L2.CX P w) 7 C "path" ["self", "one", "other"] (spPath C CN 3) := hasM_mk mPt (fun _ _ _ _ _ _ us hl => match us, hl with | [_, _, _], _ => rfl) fun f fd F => ok_path F B T hChk (hSh.up (by decide))
  have hTR : HasM P w K mg base CX0 2 C "targets" ["self", "name"] (spTargR C) := hasM_mk mT (fun _ _ _ _ _ _ us hl => match us, hl with | [_, _], _ => rfl) fun f fd F => ok_targR F B T hName
  have hNR : HasM P w K mg base CX0 3 C "is_need" ["self", "source", "target"] (spNeedR C) := hasM_mk mN (fun _ _ _ _ _ _ us hl => match us, hl with | [_, _, _], _ => rfl) fun f fd F => ok_needR F T (hName.up (by decide)) hTR
  have hShR : HasM P w K mg base CX0 3 C "shortest_paths" ["self", "name"] (spShortR C) := hasM_mk mSh (fun _ _ _ _ _ _ us hl => match us, hl with | [_, _], _ => rfl) fun f fd F => ok_shortR F B T (hBW.up (by decide)) hTR
  have hCy : HasM P w K mg base (L2.CX P w) 7 C "cycle_through" ["self", "name"] (spCycR C CN 3) := hasM_mk mCy (fun _ _ _ _ _ _ us hl => match us, hl with | [_, _], _ => rfl) fun f fd F => ok_cycR F B T hChk (hShR.up (by decide)) (hNR.up (by decide))
  have hAc : HasM P w K mg base CX0 8 C "is_acyclic" ["self"] (spAcy C) := hasM_mk mAc (fun _ _ _ _ _ _ us hl => match us, hl with | [_], _ => rfl) fun f fd F => ok_acy F B T (by decide) hCy
  have hGr : HasM P w K mg base (L2.CX P w) 9 C "group" ["self", "name"] (spGrp C CN 3) := hasM_mk mGr (fun _ _ _ _ _ _ us hl => match us, hl with | [_, _], _ => rfl) fun f fd F => ok_grp F T (by decide) (hCl.up (by decide)) hDe
  have lDis : Has P w K mg base 1 "_law_distances" ["_law_rows", "_law_goal"] spDis := has_mk X G dDis (fun _ _ _ _ _ _ us hl => match us, hl with | [_, _], _ => rfl) fun f fd F => ok_dis F B
  have lFst : Has P w K mg base 2 "_law_first" ["_law_rows", "_law_start", "_law_goal"] spFst := has_mk X G dFst (fun _ _ _ _ _ _ us hl => match us, hl with | [_, _, _], _ => rfl) fun f fd F => ok_fst F B lDis
  have lIsP : Has P w K mg base 1 "_law_is_path" ["_law_rows", "_law_told"] spIsP := has_mk X G dIsP (fun _ _ _ _ _ _ us hl => match us, hl with | [_, _], _ => rfl) fun f fd F => ok_isP F B
  have lSt : Has P w K mg base 9 "_law_stands" ["_law_made", "_law_names", "_law_rows"] (spSta C) := has_mk X G dSt (fun _ _ _ _ _ _ us hl => match us, hl with | [_, _, _], _ => rfl) fun f fd F => ok_sta (k := 8) F B T (by decide) (lFst.up (by decide)) (lIsP.up (by decide)) (hPt.up (by decide)) hDe (hP.up (by decide))
  have lLR : Has P w K mg base 10 "_law_large_right" [] spLR := has_mk X G dLR (fun _ _ _ _ _ _ us hl => match us, hl with | [], _ => rfl) fun f fd F => ok_lr (k := 9) F B T (by decide) (by decide) (hMk 7) (hR.up (by decide)) (hPt.up (by decide)) hGr (hCy.up (by decide)) (hA.up (by decide)) (hAc.up (by decide)) (hCl.up (by decide))
  exact ok_law (k := 10) (n := 3) (CN := CN) FL B T (by decide) (lPot.up (by decide)) (lNet.up (by decide)) (lFil.up (by decide)) (lWord.up (by decide)) (lSt.up (by decide)) (lPick.up (by decide)) (hA.up (by decide)) lLR
end Cr
open PySem PySem.W PyProof.Rows
set_option maxRecDepth 100000 in
set_option maxHeartbeats 0 in
theorem PySem.Challenge.cw_cycleready_k24_whole_shortest_paths_holds : PySem.Challenge.rw_cycleready_k24_whole_shortest_paths.Holds := by
  w_on; o_law; k_head; (case hw => w_witness2)
  k_fill
  refine Cr.walkG (l := PySem.Challenge.rw_cycleready_k24_whole_shortest_paths) (n := 63) (k := 11) (x := "_law_script") (sp := fun w => Cr.spLaw _) rfl (by decide) rfl ⟨rfl, by decide, by decide⟩ (fun w h Y => PySem.W.kIn_of Y) ?F (fun _ _ a ns hl _ hS => ⟨a, ns, rfl, hS, hl, fun _ => rfl⟩)
  case F =>
    intro w mg fa h KX G hmg
    have B : Cr.Blt mg := by
      constructor
      · exact PySem.W.mg_none_of KX G (by k_is)
      · exact PySem.W.mg_none_of KX G (by k_is)
      · exact PySem.W.mg_none_of KX G (by k_is)
      · exact PySem.W.mg_none_of KX G (by k_is)
      · exact PySem.W.mg_none_of KX G (by k_is)
      · exact PySem.W.mg_none_of KX G (by k_is)
      · exact PySem.W.mg_none_of KX G (by k_is)
      · exact PySem.W.mg_none_of KX G (by k_is)
      · exact PySem.W.mg_none_of KX G (by k_is)
      · exact PySem.W.mg_none_of KX G (by k_is)
      · exact PySem.W.mg_none_of KX G (by k_is)
      · exact PySem.W.mg_none_of KX G (by k_is)
      · exact PySem.W.mg_none_of KX G (by k_is)
      · exact PySem.W.mg_none_of KX G (by k_is)
      · exact PySem.W.mg_none_of KX G (by k_is)
      · exact PySem.W.mg_none_of KX G (by k_is)
      · exact PySem.W.mg_none_of KX G (by k_is)
      · exact PySem.W.mg_none_of KX G (by k_is)
      · exact PySem.W.mg_none_of KX G (by k_is)
      · exact PySem.W.mg_none_of KX G (by k_is)
      · exact PySem.W.mg_none_of KX G (by k_is)
      · exact PySem.W.mg_none_of KX G (by k_is)
      · exact PySem.W.mg_none_of KX G (by k_is)
      · exact PySem.W.mg_none_of KX G (by k_is)
      · exact PySem.W.mg_none_of KX G (by k_is)
      · exact PySem.W.mg_none_of KX G (by k_is)
    refine' Cr.all_mk (P := PySem.Challenge.pw_cycleready_k24_whole_shortest_paths) KX G hmg B ?p_v1 ?p_c0 ?p_e0 ?p_cF ?p_kF ?p_mF ?p_pF ?p_nN ?p_dName ?p_dBW ?p_dCop ?p_dChk ?p_mI ?p_mT ?p_mN ?p_mR ?p_mA ?p_mSh ?p_mCl ?p_mDe ?p_mGr ?p_mCy ?p_mAc ?p_mPt ?p_mPa ?p_dPot ?p_dDraw ?p_dPick ?p_dWord ?p_dWords ?p_dMix ?p_dNet ?p_dFil ?p_dDis ?p_dFst ?p_dIsP ?p_dSt ?p_dLR ?p_dLaw
    (case p_v1 => k_is)
    (case p_c0 => k_is)
    (case p_e0 => refine' Cr.errK ?zi ?zl ?zc ?zs ?zt ?zp; (case zi => k_is); (case zl => k_is); (case zc => k_is); (case zs => refine' Cr.supG_mk ?xo ?xa ?xb ?xc ?xd ?xe ?xf ?xg ?xh ?xi; (case xo => refine' Cr.oexG_mk Cr.xbV_ok ?y1 ?y2 ?y3 ?y4 ?y5 ?y6; (case y1 => k_is); (case y2 => first | rfl | kernel_rfl | k_is); (case y3 => k_is); (case y4 => k_is); (case y5 => k_is); (case y6 => k_is)); (case xa => k_is); (case xb => first | rfl | k_is); (case xc => first | rfl | decide +kernel); (case xd => k_is); (case xe => k_is); (case xf => k_is); (case xg => first | ks_is | k_is); (case xh => k_is); (case xi => first | rfl | decide +kernel)); (case zt => k_is); (case zp => k_is))
    (case p_cF => k_is)
    (case p_kF => refine' ⟨?h1, ?h2, ?h3, ?h4⟩; (case h1 => k_is); (case h2 => k_is); (case h3 => k_is); (case h4 => k_is))
    (case p_mF => k_is)
    (case p_pF => k_is)
    (case p_nN => show PySem.W.findIn _ _ _ = some none; k_is)
    (case p_dName => refine' Cr.defAt ?a ?l ?c ?k; (case a => k_is); (case l => k_is); (case c => k_is); (case k => k_is))
    (case p_dBW => refine' Cr.defAt ?a ?l ?c ?k; (case a => k_is); (case l => k_is); (case c => k_is); (case k => k_is))
    (case p_dCop => refine' Cr.defAt ?a ?l ?c ?k; (case a => k_is); (case l => k_is); (case c => k_is); (case k => k_is))
    (case p_dChk => refine' Cr.defAt ?a ?l ?c ?k; (case a => k_is); (case l => k_is); (case c => k_is); (case k => k_is))
    (case p_mI => refine' Cr.methAt ?a ?i ?l ?c ?k ?t; (case a => k_is); (case i => k_is); (case l => k_is); (case c => k_is); (case k => k_is); (case t => k_is))
    (case p_mT => refine' Cr.methAt ?a ?i ?l ?c ?k ?t; (case a => k_is); (case i => k_is); (case l => k_is); (case c => k_is); (case k => k_is); (case t => k_is))
    (case p_mN => refine' Cr.methAt ?a ?i ?l ?c ?k ?t; (case a => k_is); (case i => k_is); (case l => k_is); (case c => k_is); (case k => k_is); (case t => k_is))
    (case p_mR => refine' Cr.methAt ?a ?i ?l ?c ?k ?t; (case a => k_is); (case i => k_is); (case l => k_is); (case c => k_is); (case k => k_is); (case t => k_is))
    (case p_mA => refine' Cr.methAt ?a ?i ?l ?c ?k ?t; (case a => k_is); (case i => k_is); (case l => k_is); (case c => k_is); (case k => k_is); (case t => k_is))
    (case p_mSh => refine' Cr.methAt ?a ?i ?l ?c ?k ?t; (case a => k_is); (case i => k_is); (case l => k_is); (case c => k_is); (case k => k_is); (case t => k_is))
    (case p_mCl => refine' Cr.methAt ?a ?i ?l ?c ?k ?t; (case a => k_is); (case i => k_is); (case l => k_is); (case c => k_is); (case k => k_is); (case t => k_is))
    (case p_mDe => refine' Cr.methAt ?a ?i ?l ?c ?k ?t; (case a => k_is); (case i => k_is); (case l => k_is); (case c => k_is); (case k => k_is); (case t => k_is))
    (case p_mGr => refine' Cr.methAt ?a ?i ?l ?c ?k ?t; (case a => k_is); (case i => k_is); (case l => k_is); (case c => k_is); (case k => k_is); (case t => k_is))
    (case p_mCy => refine' Cr.methAt ?a ?i ?l ?c ?k ?t; (case a => k_is); (case i => k_is); (case l => k_is); (case c => k_is); (case k => k_is); (case t => k_is))
    (case p_mAc => refine' Cr.methAt ?a ?i ?l ?c ?k ?t; (case a => k_is); (case i => k_is); (case l => k_is); (case c => k_is); (case k => k_is); (case t => k_is))
    (case p_mPt => refine' Cr.methAt ?a ?i ?l ?c ?k ?t; (case a => k_is); (case i => k_is); (case l => k_is); (case c => k_is); (case k => k_is); (case t => k_is))
    (case p_mPa => refine' Cr.methAt ?a ?i ?l ?c ?k ?t; (case a => k_is); (case i => k_is); (case l => k_is); (case c => k_is); (case k => k_is); (case t => k_is))
    (case p_dPot => refine' Cr.defAt ?a ?l ?c ?k; (case a => k_is); (case l => k_is); (case c => k_is); (case k => k_is))
    (case p_dDraw => refine' Cr.defAt ?a ?l ?c ?k; (case a => k_is); (case l => k_is); (case c => k_is); (case k => k_is))
    (case p_dPick => refine' Cr.defAt ?a ?l ?c ?k; (case a => k_is); (case l => k_is); (case c => k_is); (case k => k_is))
    (case p_dWord => refine' Cr.defAt ?a ?l ?c ?k; (case a => k_is); (case l => k_is); (case c => k_is); (case k => k_is))
    (case p_dWords => refine' Cr.defAt ?a ?l ?c ?k; (case a => k_is); (case l => k_is); (case c => k_is); (case k => k_is))
    (case p_dMix => refine' Cr.defAt ?a ?l ?c ?k; (case a => k_is); (case l => k_is); (case c => k_is); (case k => k_is))
    (case p_dNet => refine' Cr.defAt ?a ?l ?c ?k; (case a => k_is); (case l => k_is); (case c => k_is); (case k => k_is))
    (case p_dFil => refine' Cr.defAt ?a ?l ?c ?k; (case a => k_is); (case l => k_is); (case c => k_is); (case k => k_is))
    (case p_dDis => refine' Cr.defAt ?a ?l ?c ?k; (case a => k_is); (case l => k_is); (case c => k_is); (case k => k_is))
    (case p_dFst => refine' Cr.defAt ?a ?l ?c ?k; (case a => k_is); (case l => k_is); (case c => k_is); (case k => k_is))
    (case p_dIsP => refine' Cr.defAt ?a ?l ?c ?k; (case a => k_is); (case l => k_is); (case c => k_is); (case k => k_is))
    (case p_dSt => refine' Cr.defAt ?a ?l ?c ?k; (case a => k_is); (case l => k_is); (case c => k_is); (case k => k_is))
    (case p_dLR => refine' Cr.defAt ?a ?l ?c ?k; (case a => k_is); (case l => k_is); (case c => k_is); (case k => k_is))
    (case p_dLaw => refine' Cr.defAt ?a ?l ?c ?k; (case a => k_is); (case l => k_is); (case c => k_is); (case k => k_is))
