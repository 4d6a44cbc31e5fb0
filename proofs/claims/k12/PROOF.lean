import PyProof.Rows.All
import Wide.All
import OpenK.AllK
import Wide.FinOn
import PyProof.ReprRoads
import KE.GoesMore
import HandS.ForMost
import HandS.Evl
import HandS.IsInst
import HandS.Zip
import HandS.WideBits
import HandS.EndBits
import HandS.More
import HandS.Walk
import HandS.TupAny
import HandS.ExcInit
import HandS.ExcIs
import HandS.ExcField
import HandS.WordsExc
import KE.KExcSuper
import KE.KExcInit
import HandS.ExcOwn
import HandS.OwnEq
import HandS.NamedTupGet
import HandS.CallSlots
import HandS.Defaults
import HandS.MakeKwOnly
import HandS.FStr
import KE.KExcIs
import HandS.Style
import HandS.DictComp
import HandS.Steps
import HandS.Set
import HandS.SetBool
import HandS.TupSets
import PyProof.Rows.SortStr
import HandS.Strs
import PySem.Challenge.RW_cycleready_k12_programs_checked
set_option Elab.async false
set_option linter.all false
set_option maxRecDepth 100000
set_option maxHeartbeats 4000000
/-! Cr, part 1: promises of defs that hold where no repr is under way (so that repr may be asked inside of them). -/
namespace Cr
open PySem PySem.Spec PyProof.Rows L2 Evl

/-- nothing is being shown around -/
abbrev Quiet (A : Around) : Prop := A.guards = some []

/-- a def's promise, kept where it is quiet -/
structure FnG (P : Program) (w : World) (K : PySem.W.Frag) (mg : Str → Option Value) (base : Heap) (CX : CXT) (k : Nat) (f : Addr) (fd : FuncData) (ps : List Str) (sp : Sp) : Prop where
  sized : ∀ vs H Q E, sp vs H Q E → vs.length = ps.length
  goes : ∀ (A : Around) (outer : List Env) (s : Shared) (H : Hp) (args : Args) (us : List Value) (vs : List V) (Q : VK) (E : XK),
    Quiet A → Room k A → Env0 P w K mg base A outer s H → BindsTo s fd args (ps.zip us) → Vals vs us → sp vs H Q E →
    codeAny (model P w) A (.call (.ref f) args) (CR CX outer P w H s Q E) s

section
variable {P : Program} {w : World} {K : PySem.W.Frag} {mg : Str → Option Value} {base : Heap}

theorem FnG.ofOk {CX : CXT} {k : Nat} {f : Addr} {fd : FuncData} {ps : List Str} {sp : Sp}
    (F : FnOk P w K mg base CX k f fd ps sp) : FnG P w K mg base CX k f fd ps sp :=
  ⟨F.len, fun A outer s H args us vs Q E _ hr e hb r h => F.run A outer s H args us vs Q E hr e hb r h⟩

theorem FnG.up {CX : CXT} {j k : Nat} {f : Addr} {fd : FuncData} {ps : List Str} {sp : Sp}
    (F : FnG P w K mg base CX j f fd ps sp) (le : j ≤ k) : FnG P w K mg base CX k f fd ps sp :=
  ⟨F.sized, fun A outer s H args us vs Q E hq hr e hb r h => F.goes A outer s H args us vs Q E hq (hr.mono le) e hb r h⟩

/-- a def by its body, where it is quiet -/
theorem okG {x qual : Str} {st : Stmt} {f : Addr} {fd : FuncData} {N ps : List Str} {k : Nat} {sp : Sp}
    (F : Fun K x qual st f fd) (S : FnScope N ps (defScope st)) (len : ∀ vs H Q E, sp vs H Q E → vs.length = ps.length)
    (hbody : ∀ (cdv : Value) (A : Around) (outer : List Env) (s : Shared) (H : Hp) (vs : List V) (Q : VK) (E : XK),
      Quiet (A.deeper (envOfC qual (defScope st) s.heap.objs.size f cdv)) →
      Room k (A.deeper (envOfC qual (defScope st) s.heap.objs.size f cdv)) → sp vs H Q E →
      ∃ t, PSs (cxOf CX0 P w K mg base N qual (defScope st) f cdv A outer s H E).nox (defBody st) t ∧
        t { nx := fun _ H' => Q .non H', rt := Q } (start N vs) H) :
    FnG P w K mg base CX0 (k + 1) f fd ps sp := by
  obtain ⟨oc, od, kV, doc, pm, an, cdv, ct, osl, rfl, lk, hcd⟩ := F.ex
  refine ⟨len, fun A outer s H args us vs Q E hq hr e0 hb r hsp => ?_⟩
  have keepB : ∀ b o, base.get? b = some o → s.heap.get? b = some o := fun b o e => (e0.bs b o e).1
  have kinds : ((ps.zip us).all fun y => (defScope st).names.lookup y.1 == some .local || (defScope st).names.lookup y.1 == some .cell) = true := by
    refine List.all_eq_true.mpr fun y hy => ?_
    obtain ⟨n, v⟩ := y
    rcases S.par n (List.of_mem_zip hy).1 with z | z
    · simp [z]
    · simp [z]
  refine Att.call_fn (binds := ps.zip us) (e0.mod.kin.keeps keepB) (e0.mod.nolimit.keeps keepB) lk hcd hr.depth hb kinds (fun s1 IC => ?_) S.co S.gen S.kind
  obtain ⟨t, ht, hT⟩ := hbody cdv A outer s H vs Q E hq (hr.deeper _) hsp
  have I := inv_start (CX := CX0) (E := E) S hr.hd e0 (len _ _ _ _ hsp) r IC
  refine wpAny_mono (ht.nox.run [] s1 (start N vs) H _ I hT) (fun fl s2 h2 => ?_) fun e s2 h2 => h2
  match fl, h2 with
  | .ret u, ⟨v, σ2, H2, J, rv, q⟩ => exact ⟨v, H2, J.os, J.bare, J.base, J.hok, rv, q⟩
  | .next, ⟨σ2, H2, J, q⟩ => exact ⟨V.non, H2, J.os, J.bare, J.base, J.hok, rfl, q⟩
  | .brk, ⟨_, _, _, q⟩ => exact q.elim
  | .cont, ⟨_, _, _, q⟩ => exact q.elim
end

section
variable {X : Cx} {CX : CXT} {k : Nat} {f : Addr} {fd : FuncData} {ps : List Str} {sp : Sp} {dvs : List V} {ds : List Value} {E : XK}

/-- the callee, called where it is quiet -/
theorem runG {pins : List (Addr × Obj)} {σ : L2.St} {H : Hp} {s : Shared} {Q : VK} {us : List Value} {vs : List V}
    (F : FnG X.prog X.w X.K X.mg X.base CX k f fd ps sp) (hq : Quiet X.A) (hr : Room k X.A) (hb : Binds X.K fd ps ds) (hd : Vals dvs ds)
    (hx : Passes CX X E) (I : Inv X pins σ H s) (r : Vals vs us) (h : sp (vs ++ dvs) H Q E) :
    wpAny (model X.prog X.w) X.A (call (.ref f) us) (EP X pins σ Q) X.xe s := by
  have rr : Vals (vs ++ dvs) (us ++ ds) := Vals.append r hd
  have nn : (us ++ ds).length = ps.length := rr.length.symm.trans (F.sized _ _ _ _ h)
  have c := F.goes X.A X.stack s H ⟨us, []⟩ (us ++ ds) (vs ++ dvs) Q E hq hr (Inv.env0 I) (hb s us I.kIn nn) rr h
  refine wpAny_call (codeAny_mono c fun res s2 z => ?_)
  match res, z with
  | .error e, z => exact hx pins σ H s e s2 I z
  | .ok (.ret u), z => exact Inv.after I z
  | .ok .next, z => exact False.elim z
  | .ok .brk, z => exact False.elim z
  | .ok .cont, z => exact False.elim z

variable {x : Str} {p pos : Pos} {e : Expr} {es : List Expr} {t : TA}
theorem callG (F : FnG X.prog X.w X.K X.mg X.base CX k f fd ps sp) (hq : Quiet X.A) (hr : Room k X.A) (hg : Gl X x)
    (hm : X.mg x = some (.ref f)) (hk : PySem.W.keepIn X.K (.ref f) = true) (hb : Binds X.K fd ps ds) (hd : Vals dvs ds) (hx : Passes CX X E)
    (ha : PA X (e :: es) t) (hdb : (x == ("__debug__" : Str)) = false := by decide)
    (he : starEach (e :: es) X.env = (false, eval e X.env) :: starEach es X.env := by rfl)
    (hpl : (backTo pos (starEach es X.env)).any (·.1) = false := by rfl) :
    PE X (.Call (.Name x p) (e :: es) [] pos) (tCall sp dvs E t) := by
  constructor
  intro pins s σ H Q I h
  refine wpAny_Call_Name_kw (ld_glob I hg hm ?_ hdb)
  refine PySem.W.callWith_K (h₀ := X.base) I.ok.mod.kin hk ?_ he hpl
  refine thn (ha.run pos pins s σ H _ I h) ?_
  rintro us s1 ⟨vs, H1, I1, r, q⟩
  exact ⟨I1.kIn, runG F hq hr hb hd hx I1 r q⟩
theorem call0G (F : FnG X.prog X.w X.K X.mg X.base CX k f fd ps sp) (hq : Quiet X.A) (hr : Room k X.A) (hg : Gl X x)
    (hm : X.mg x = some (.ref f)) (hk : PySem.W.keepIn X.K (.ref f) = true) (hb : Binds X.K fd ps ds) (hd : Vals dvs ds) (hx : Passes CX X E)
    (hdb : (x == ("__debug__" : Str)) = false := by decide) : PE X (.Call (.Name x p) [] [] pos) (tCall sp dvs E tNil) := by
  constructor
  intro pins s σ H Q I h
  refine wpAny_Call_Name_kw (ld_glob I hg hm ?_ hdb)
  exact PySem.W.callWith_K0 I.kIn hk (runG (us := []) F hq hr hb hd hx I .nil h)
end

/-! ### the law's own call -/
theorem law_callG {P : Program} {w : World} {K : PySem.W.Frag} {mg mb : Str → Option Value} {k : Nat} {fa a : Addr} {fd : FuncData} {x : Str} {sp : Sp} {s₁ : Shared} {vs : List Value} {ns : List Int}
    (KX : K.In s₁.heap) (hns : s₁.heap.Ns mainGlobals mg) (hb : s₁.heap.Ns builtinsNs mb) (hbb : ∀ x : Str, x ≠ "__name__" → mb x = bootBuiltins x)
    (hlim : s₁.heap.NoLimit) (hg : s₁.gens = #[]) (ha : s₁.heap.get? a = some { cls := .type "list", data := .seq vs.toArray })
    (hi : IntsAre vs ns) (hl : ns.length ≤ sizeLine) (hr : Room k callerA)
    (F : ∀ base : Heap, K.In base → base.Ns mainGlobals mg → FnG P w K mg base CX0 k fa fd [x] sp)
    (hbind : ∀ (s : Shared) (u : Value), BindsTo s fd ⟨[u], []⟩ [(x, u)])
    (hsp : ∀ H : Hp, SqL K H a (ns.map V.int) → sp [.ref a] H (fun v _ => v = .bl true) E0) :
    codeAny (model P w) callerA (.call (.ref fa) ⟨[.ref a], []⟩) (fun r s' => r = .ok (.ret (.bool true)) ∧ OldK s₁.heap s'.heap ∧ s'.os = s₁.os ∧ AllBare s'.gens) s₁ := by
  have rv := vals_ints hi
  have lenV := hi.length
  have core : ∀ H : Hp, (∀ b, H b = none ∨ (b = a ∧ H b = some (.frz { cls := .type "list", data := .seq vs.toArray } (.lst (ns.map V.int))) ∧ K.lookup a = none)) →
      SqL K H a (ns.map V.int) →
      codeAny (model P w) callerA (.call (.ref fa) ⟨[.ref a], []⟩) (fun r s' => r = .ok (.ret (.bool true)) ∧ OldK s₁.heap s'.heap ∧ s'.os = s₁.os ∧ AllBare s'.gens) s₁ := by
    intro H hO hS
    have hok : HOk P w H s₁.heap := fun b u z => by
      rcases hO b with q | ⟨rfl, q, _⟩
      · rw [q] at z; cases z
      · rw [q] at z; cases z
        exact ⟨ha, by rw [List.length_map]; exact hl, vs, _, rv, ha⟩
    have keepN : ∀ {b : Addr} {m : Str → Option Value}, s₁.heap.Ns b m → (hidT s₁.heap H).Ns b m := fun {b m} z => by
      obtain ⟨o, es, ep, e, d, r⟩ := z
      refine ⟨o, es, ep, hidT_get e ?_, d, r⟩
      rcases hO b with q | ⟨rfl, q, _⟩
      · exact q
      · rw [ha] at e
        cases e
        have d' : Data.seq vs.toArray _ = Data.dict es ep := d
        cases d'
    have keepK : K.In (hidT s₁.heap H) := fun b o e => by
      refine hidT_get (KX b o e) ?_
      rcases hO b with q | ⟨rfl, q, n⟩
      · exact q
      · rw [n] at e; cases e
    have hM : Mod K mg (hidT s₁.heap H) := by
      obtain ⟨mc, l1, l2⟩ := hlim
      exact ⟨keepK, keepN hns, ⟨mb, keepN hb, hbb⟩, ⟨mc, keepN l1, l2⟩⟩
    have e0 : Env0 P w K mg (hidT s₁.heap H) callerA [] s₁ H :=
      { frames := rfl, mod := hM, bs := fun b o e => of_hidT e, bsz := Nat.le_of_eq (hidT_size _ _), funs := trivial,
        frf := fun b z => absurd (show b ∈ ([] : List Addr) from z) List.not_mem_nil, hok := hok, bare := .of_eq hg }
    have go := (F _ keepK (keepN hns)).goes callerA [] s₁ H ⟨[.ref a], []⟩ [.ref a] [.ref a] _ _ rfl hr e0 (hbind s₁ (.ref a)) (.cons rfl .nil) (hsp H hS)
    refine codeAny_mono go fun res s2 z => ?_
    match res, z with
    | .error e, z => exact z.elim
    | .ok .next, z => exact False.elim z
    | .ok .brk, z => exact False.elim z
    | .ok .cont, z => exact False.elim z
    | .ok (.ret u), ⟨v, H2, os, bare, un, hok2, rel, q⟩ =>
      have qv : v = .bl true := q
      subst qv
      obtain rfl : u = Value.bool true := rel
      refine ⟨rfl, OldK.of_keep fun b o e => ?_, os, bare⟩
      rcases hO b with z | ⟨rfl, z, _⟩
      · exact un.keep b o e z (fun y => absurd (show b ∈ ([] : List Addr) from y) List.not_mem_nil) List.not_mem_nil
      · obtain ⟨g1, _⟩ := hok2 b _ (un.frzs b _ _ z)
        rw [ha] at e
        cases e
        exact g1
  cases hk : K.lookup a with
  | some o =>
    have e := KX a o hk
    rw [ha] at e
    cases e
    exact core (fun _ => none) (fun _ => .inl rfl) (.inr ⟨_, vs.toArray, _, hk, rfl, rfl, rfl, by rw [List.size_toArray, lenV]; exact hl, by simpa using rv⟩)
  | none =>
    refine core (fun b => if b = a then some (.frz { cls := .type "list", data := .seq vs.toArray } (.lst (ns.map V.int))) else none) (fun b => ?_) (.inl (.inr ⟨_, if_pos rfl⟩))
    by_cases hb : b = a
    · exact .inr ⟨hb, if_pos hb, hk⟩
    · exact .inl (if_neg hb)

/-- the end of a law row, the script's bits told -/
theorem walkG {l : PySem.W.OpenLaw} {n k : Nat} {q : Program} {loose : List Str} {XP : (Str → Option Value) → Heap → Prop} {YP : World → Heap → Prop} {d : DefRec} {K : Params → PySem.W.Frag} {sp : World → Sp} {x : Str}
    (hn : l.most = some n) (hn2 : n ≤ sizeLine) (hdf : d.params.defaults = []) (hr : Room k callerA)
    (hY : ∀ (w : World) (h : Heap), YP w h → (K w.params).In h)
    (F : ∀ (w : World) (mg : Str → Option Value) (fa : Addr) (h : Heap), (K w.params).In h → h.Ns mainGlobals mg → mg d.name = some (.ref fa) →
      ∃ fd : FuncData, (∀ (s : Shared) (u : Value), BindsTo s fd ⟨[u], []⟩ [(x, u)]) ∧
        ∀ base : Heap, (K w.params).In base → base.Ns mainGlobals mg → FnG l.prog w (K w.params) mg base CX0 k fa fd [x] (sp w))
    (hsp : ∀ (w : World) (H : Hp) (a : Addr) (ns : List Int), ns.length ≤ n → (∀ z ∈ ns, Builtin.Int.intBits z ≤ 1048576) →
      SqL (K w.params) H a (ns.map V.int) → sp w [.ref a] H (fun v _ => v = .bl true) E0) :
    PySem.W.WalkO q loose XP YP l.row.toRowW d [] (fun f vs => PySem.call f vs) := by
  refine Att.attach_callB hn hdf ?_
  intro w s₀ s₁ mg mb fa o pm cd doc a vs ns G Y ho hd hcd hmg hobj hints hlen hbits hgen
  obtain ⟨fd, hb, hF⟩ := F w mg fa _ (hY w _ Y) G.T.g hmg
  exact law_callG (hY w _ Y) G.T.g G.T.b G.T.builtins G.T.nolimit hgen hobj hints (Nat.le_trans hlen hn2) hr hF hb
    (fun H hS => hsp w H a ns hlen hbits hS)
end Cr
/-! Cr, part 2: data in the abstract heap, repr of it, isinstance of it. -/
namespace Cr
open PySem PySem.Spec PyProof.Rows L2 Evl

def kD : Key → PyData
  | .inl i => .int i
  | .inr x => .str x

mutual
/-- the value v is the data d, all of it tracked -/
inductive Dt (H : Hp) : V → PyData → Prop
  | non : Dt H .non .none
  | bl (b : Bool) : Dt H (.bl b) (.bool b)
  | int (i : Int) : Dt H (.int i) (.int i)
  | str (x : Str) : Dt H (.str x) (.str x)
  | lst {a : Addr} {xs : List V} {ds : List PyData} : H a = some (.lst xs) → DtAll H xs ds → Dt H (.ref a) (.list ds)
  | tup {a : Addr} {xs : List V} {ds : List PyData} : H a = some (.tup xs) → DtAll H xs ds → Dt H (.ref a) (.tuple ds)
  | dct {a : Addr} {kvs : List (Key × V)} {es : List (PyData × PyData)} : H a = some (.dK kvs) → DtKv H kvs es → Dt H (.ref a) (.dict es)
inductive DtAll (H : Hp) : List V → List PyData → Prop
  | nil : DtAll H [] []
  | cons {v : V} {vs : List V} {d : PyData} {ds : List PyData} : Dt H v d → DtAll H vs ds → DtAll H (v :: vs) (d :: ds)
inductive DtKv (H : Hp) : List (Key × V) → List (PyData × PyData) → Prop
  | nil : DtKv H [] []
  | cons {k : Key} {v : V} {kvs : List (Key × V)} {d : PyData} {es : List (PyData × PyData)} : Dt H v d → DtKv H kvs es → DtKv H ((k, v) :: kvs) ((kD k, d) :: es)
end

mutual
theorem Dt.ex {H H' : Hp} (e : Ex H H') : ∀ {v : V} {d : PyData}, Dt H v d → Dt H' v d
  | _, _, .non => .non
  | _, _, .bl b => .bl b
  | _, _, .int i => .int i
  | _, _, .str x => .str x
  | _, _, .lst h a => .lst (e _ _ h) (DtAll.ex e a)
  | _, _, .tup h a => .tup (e _ _ h) (DtAll.ex e a)
  | _, _, .dct h a => .dct (e _ _ h) (DtKv.ex e a)
theorem DtAll.ex {H H' : Hp} (e : Ex H H') : ∀ {vs : List V} {ds : List PyData}, DtAll H vs ds → DtAll H' vs ds
  | _, _, .nil => .nil
  | _, _, .cons h t => .cons (Dt.ex e h) (DtAll.ex e t)
theorem DtKv.ex {H H' : Hp} (e : Ex H H') : ∀ {kvs : List (Key × V)} {es : List (PyData × PyData)}, DtKv H kvs es → DtKv H' kvs es
  | _, _, .nil => .nil
  | _, _, .cons h t => .cons (Dt.ex e h) (DtKv.ex e t)
end

theorem DtAll.length {H : Hp} : ∀ {vs : List V} {ds : List PyData}, DtAll H vs ds → vs.length = ds.length
  | _, _, .nil => rfl
  | _, _, .cons _ t => by simp [DtAll.length t]
theorem DtKv.len {H : Hp} : ∀ {kvs : List (Key × V)} {ds : List (PyData × PyData)}, DtKv H kvs ds → kvs.length = ds.length
  | _, _, .nil => rfl
  | _, _, .cons _ t => by simp [DtKv.len t]
theorem DtAll.get {H : Hp} : ∀ {vs : List V} {ds : List PyData} {i : Nat} {v : V}, DtAll H vs ds → vs[i]? = some v → ∃ d, ds[i]? = some d ∧ Dt H v d
  | _, _, _, _, .nil, h => by simp at h
  | _, _, 0, _, .cons h _, e => by simp at e; subst e; exact ⟨_, rfl, h⟩
  | _, _, i + 1, _, .cons _ t, e => by
    obtain ⟨d, h1, h2⟩ := DtAll.get (i := i) t (by simpa using e)
    exact ⟨d, by simpa using h1, h2⟩
theorem DtAll.append {H : Hp} : ∀ {vs ws : List V} {ds es : List PyData}, DtAll H vs ds → DtAll H ws es → DtAll H (vs ++ ws) (ds ++ es)
  | _, _, _, _, .nil, s => s
  | _, _, _, _, .cons h t, s => .cons h (DtAll.append t s)
theorem DtAll.drop {H : Hp} : ∀ {vs : List V} {ds : List PyData} (n : Nat), DtAll H vs ds → DtAll H (vs.drop n) (ds.drop n)
  | _, _, 0, h => h
  | _, _, _ + 1, .nil => .nil
  | _, _, n + 1, .cons _ t => DtAll.drop n t
theorem DtAll.take {H : Hp} : ∀ {vs : List V} {ds : List PyData} (n : Nat), DtAll H vs ds → DtAll H (vs.take n) (ds.take n)
  | _, _, 0, _ => .nil
  | _, _, _ + 1, .nil => .nil
  | _, _, n + 1, .cons h t => .cons h (DtAll.take n t)
theorem DtAll.set {H : Hp} {v : V} {d : PyData} (hv : Dt H v d) : ∀ {vs : List V} {ds : List PyData} (n : Nat), DtAll H vs ds → DtAll H (vs.set n v) (ds.set n d)
  | _, _, _, .nil => .nil
  | _, _, 0, .cons _ t => .cons hv t
  | _, _, n + 1, .cons h t => .cons h (DtAll.set hv n t)

/-! ### the heap without one object -/
def wo (p : Addr) (H : Hp) : Hp := fun a => if a = p then none else H a
theorem wo_ne {p a : Addr} {H : Hp} (h : a ≠ p) : wo p H a = H a := if_neg h
theorem wo_same {p : Addr} {H : Hp} : wo p H p = none := if_pos rfl
theorem wo_some {p a : Addr} {H : Hp} {o : HO} (h : wo p H a = some o) : a ≠ p ∧ H a = some o := by
  by_cases e : a = p
  · subst e
    rw [wo_same] at h
    cases h
  · rw [wo_ne e] at h
    exact ⟨e, h⟩
theorem wo_ex (p : Addr) (H : Hp) : Ex (wo p H) H := fun a o h => (wo_some h).2
theorem Ex.wo {p : Addr} {H H' : Hp} (e : Ex H H') : Ex (Cr.wo p H) (Cr.wo p H') := fun a o h => by
  obtain ⟨n, h⟩ := wo_some h
  rw [wo_ne n]
  exact e a o h
theorem wo_upd {p : Addr} {H H' : Hp} {o : HO} (e : Ex (wo p H) (wo p H')) : Ex (wo p H) (wo p (upd H' p o)) := fun a u h => by
  have n := (wo_some h).1
  have q := e a u h
  rw [wo_ne n] at q
  rw [wo_ne n, upd_ne n]
  exact q

/-! ### the kind of data -/
def tyT : PyData → String
  | .none => "NoneType"
  | .bool _ => "bool"
  | .int _ => "int"
  | .str _ => "str"
  | .list _ => "list"
  | .tuple _ => "tuple"
  | .dict _ => "dict"
theorem Dt.ty {K : PySem.W.Frag} {H : Hp} {v : V} {d : PyData} (h : Dt H v d) : TyX K H v (.type (tyT d)) := by
  cases h with
  | non => exact .base .non
  | bl b => exact .base (.bl b)
  | int i => exact .base (.int i)
  | str x => exact .base (.str x)
  | lst h _ => exact .base (.lst h)
  | tup h _ => exact .base (.tup h)
  | dct h _ => exact .base (.dK h)
/-- isinstance(v, T), T one of the plain types -/
def isTs (T t : String) : Bool := t == T || (T == "int" && t == "bool")
def isT (T : String) (d : PyData) : Bool := isTs T (tyT d)
theorem kitS : ∀ t ∈ ["NoneType", "bool", "int", "str", "list", "tuple", "dict"], ∀ T ∈ ["int", "bool", "str", "list", "tuple", "dict"], kitB t T = some (isTs T t) := by decide +kernel
theorem tyT_mem (d : PyData) : tyT d ∈ ["NoneType", "bool", "int", "str", "list", "tuple", "dict"] := by
  cases d <;> simp [tyT]
theorem kit_isT {K : PySem.W.Frag} {T : String} (hT : T ∈ ["int", "bool", "str", "list", "tuple", "dict"]) (d : PyData) :
    PySem.W.kitOne K (.type (tyT d)) (.type T) = some (isT T d) := kit_ty (kitS _ (tyT_mem d) _ hT)
/-- isinstance on data -/
theorem rc_isi {K : PySem.W.Frag} {H : Hp} {v : V} {d : PyData} {T : String} (h : Dt H v d) (hT : T ∈ ["int", "bool", "str", "list", "tuple", "dict"]) :
    RC (rIsi K) [v, .ty T] H (.bl (isT T d)) := fun H1 e Q q =>
  ⟨v, .ty T, .type (tyT d), .type T, isT T d, rfl, .ty T, (Dt.ex e h).ty, kit_isT hT d, q H1 (Ex.refl H1)⟩

/-! ### repr -/
section
variable {X : Cx} {pins : List (Addr × Obj)} {σ : L2.St} {H : Hp} {s : Shared}
/-- what is shown of a value, at any heap that keeps this one -/
def Shown (P : Program) (w : World) (h : Heap) (v : Value) (d : PyData) : Prop :=
  (∃ as, Reads h v d as) ∧ (d.showable = true → d.shown.length ≤ sizeLine → ∃ bs, ReadAtMost h d.depth bs ∧ ReprK P w bs h d.depth v d.shown)
def ShownAll (P : Program) (w : World) (h : Heap) (vs : List Value) (ds : List PyData) : Prop :=
  (∃ as, ReadsAll h vs ds as) ∧ (PyData.showableAll ds = true → (∀ t ∈ PyData.shownAll ds, t.length ≤ sizeLine) →
    ∃ bs, ReadAtMost h (PyData.depthAll ds) bs ∧ ReprAllK P w bs h (PyData.depthAll ds) vs (PyData.shownAll ds))
theorem ShownAll.nil {P : Program} {w : World} {h : Heap} : ShownAll P w h [] [] :=
  ⟨⟨_, .nil⟩, fun _ _ => ⟨[], (fun _ z => nomatch z), by rw [PyData.shownAll]; exact .nil⟩⟩
theorem ShownAll.cons {P : Program} {w : World} {h : Heap} {v : Value} {vs : List Value} {d : PyData} {ds : List PyData} (a : Shown P w h v d) (b : ShownAll P w h vs ds) : ShownAll P w h (v :: vs) (d :: ds) := by
  obtain ⟨⟨as, ra⟩, sa⟩ := a
  obtain ⟨⟨bs, rb⟩, sb⟩ := b
  refine ⟨⟨_, .cons ra rb⟩, fun hs hz => ?_⟩
  rw [PyData.showableAll, Bool.and_eq_true] at hs
  rw [PyData.shownAll] at hz
  obtain ⟨b1, m1, k1⟩ := sa hs.1 (hz _ (List.mem_cons_self ..))
  obtain ⟨b2, m2, k2⟩ := sb hs.2 fun t ht => hz t (List.mem_cons_of_mem _ ht)
  refine ⟨b1 ++ b2, ?_, ?_⟩
  · rw [PyData.depthAll]
    exact (m1.mono (Nat.le_max_left _ _)).append (m2.mono (Nat.le_max_right _ _))
  · rw [PyData.depthAll, PyData.shownAll]
    exact .cons ((k1.more fun b hb => List.mem_append_left _ hb).level_le (Nat.le_max_left _ _)) (k2.more_le (fun b hb => List.mem_append_right _ hb) (Nat.le_max_right _ _))
theorem Shown.list {P : Program} {w : World} {h : Heap} {a : Addr} {o : Obj} {vs : List Value} {n : Nat} {ds : List PyData} (g : h.get? a = some o) (c : o.cls = .type "list") (e : o.data = .seq vs.toArray n) (S : ShownAll P w h vs ds) : Shown P w h (.ref a) (.list ds) := by
  obtain ⟨⟨as, ra⟩, sa⟩ := S
  have R : Reads h (.ref a) (.list ds) (a :: as) := .list g c e (by simpa using ra)
  refine ⟨⟨_, R⟩, fun hs hz => ?_⟩
  rw [PyData.showable] at hs
  rw [PyData.shown] at hz
  obtain ⟨bs, m, k⟩ := sa hs fun t ht => Nat.le_trans (listText_mem_le ht) hz
  have no : a ∉ bs := not_mem_of_deeper R (by rw [PyData.depth]; omega) m
  refine ⟨a :: bs, ReadAtMost.cons R (by rw [PyData.depth]; omega) m, ?_⟩
  rw [PyData.depth, PyData.shown]
  cases vs with
  | nil =>
    cases ra
    rw [PyData.shownAll, listText_nil]
    exact ReprK.listEmpty g c e
  | cons x l => exact ReprK.list g c e no (by simpa using k.length_eq) fun i y q => k.item i y (by simpa using q)
theorem Shown.tuple {P : Program} {w : World} {h : Heap} {a : Addr} {o : Obj} {vs : List Value} {n : Nat} {ds : List PyData} (g : h.get? a = some o) (c : o.cls = .type "tuple") (e : o.data = .seq vs.toArray n) (S : ShownAll P w h vs ds) : Shown P w h (.ref a) (.tuple ds) := by
  obtain ⟨⟨as, ra⟩, sa⟩ := S
  have R : Reads h (.ref a) (.tuple ds) as := .tuple g c e (by simpa using ra)
  refine ⟨⟨_, R⟩, fun hs hz => ?_⟩
  rw [PyData.showable] at hs
  rw [PyData.shown] at hz
  obtain ⟨bs, m, k⟩ := sa hs fun t ht => Nat.le_trans (tupleText_mem_le ht) hz
  refine ⟨a :: bs, ReadAtMost.cons R (by rw [PyData.depth]; omega) m, ?_⟩
  rw [PyData.depth, PyData.shown]
  exact ReprK.tuple g c e (not_mem_of_deeper R (by rw [PyData.depth]; omega) m) (by simpa using k)
theorem Shown.dict {P : Program} {w : World} {h : Heap} {a : Addr} {o : Obj} {es : Array DictEntry} {n : Nat} {kvs : List (PyData × PyData)} (g : h.get? a = some o) (c : o.cls = .type "dict") (e : o.data = .dict es n) (sys : (a == sysModules) = false)
    (S1 : ShownAll P w h (es.toList.map (·.key)) (kvs.map (·.1))) (S2 : ShownAll P w h (es.toList.map (·.val)) (kvs.map (·.2))) : Shown P w h (.ref a) (.dict kvs) := by
  obtain ⟨⟨as, ra⟩, sa⟩ := S1
  obtain ⟨⟨bs, rb⟩, sb⟩ := S2
  have R : Reads h (.ref a) (.dict kvs) (a :: as ++ bs) := .dict g c e ra rb
  refine ⟨⟨_, R⟩, fun hs hz => ?_⟩
  rw [PyData.showable] at hs
  rw [PyData.shown] at hz
  obtain ⟨h1, h2⟩ := PyData.showableKv_split kvs hs
  obtain ⟨b1, m1, k1⟩ := sa h1 fun t ht => let ⟨p, hp, hl⟩ := PyData.shownKv_key_le kvs t ht; Nat.le_trans hl (Nat.le_trans (dictText_mem_le hp) hz)
  obtain ⟨b2, m2, k2⟩ := sb h2 fun t ht => let ⟨p, hp, hl⟩ := PyData.shownKv_val_le kvs t ht; Nat.le_trans hl (Nat.le_trans (dictText_mem_le hp) hz)
  have m := (m1.mono (PyData.depthAll_keys_le kvs)).append (m2.mono (PyData.depthAll_vals_le kvs))
  refine ⟨a :: (b1 ++ b2), ReadAtMost.cons R (by rw [PyData.depth]; omega) m, ?_⟩
  rw [PyData.depth, PyData.shown, PyData.shownKv_eq]
  refine ReprK.dict g c e sys (not_mem_of_deeper R (by rw [PyData.depth]; omega) m) ?_
  exact ReprEntriesK.of_two es.toList _ _ (k1.more_le (fun b hb => List.mem_append_left _ hb) (PyData.depthAll_keys_le kvs)) (k2.more_le (fun b hb => List.mem_append_right _ hb) (PyData.depthAll_vals_le kvs))
theorem Shown.key {P : Program} {w : World} {h : Heap} {k : Key} {v : Value} (q : keyIs k v = true) : Shown P w h v (kD k) := by
  rcases keyIs_shape q with ⟨i, t, rfl, rfl⟩ | ⟨x, t, rfl, rfl⟩
  · refine ⟨⟨_, Reads.int i t⟩, fun hs _ => ⟨[], (fun _ z => nomatch z), ?_⟩⟩
    simp only [kD, PyData.shown]
    exact .of_is (ReprIs.int t (by simpa [kD, PyData.showable] using hs)) _ _ _
  · refine ⟨⟨_, Reads.str x t⟩, fun _ hz => ⟨[], (fun _ z => nomatch z), ?_⟩⟩
    simp only [kD, PyData.shown] at hz ⊢
    exact .of_is (ReprIs.str x t hz) _ _ _
/-- keys and values of a tracked dict -/
theorem shown_pairs {P : Program} {w : World} {h : Heap} : ∀ {kvs : List (Key × V)} {us : List (Key × Value)} {es : List DictEntry} {ds : List (PyData × PyData)},
    KV kvs us → PySem.Pairs (mixKind P w) es us → (∀ (i : Nat) (k : Key) (v : V) (u : Value), kvs[i]? = some (k, v) → RelV v u → ∃ d, ds[i]? = some (kD k, d) ∧ Shown P w h u d) → kvs.length = ds.length →
    ShownAll P w h (es.map (·.key)) (ds.map (·.1)) ∧ ShownAll P w h (es.map (·.val)) (ds.map (·.2))
  | [], _, _, ds, kv, ps, _, hl => by
    cases kv
    cases ps
    cases ds with
    | nil => exact ⟨.nil, .nil⟩
    | cons x r => simp at hl
  | (k, v) :: r, _, _, ds, kv, ps, hv, hl => by
    cases kv with
    | cons h1 h2 =>
      rename_i q us'
      obtain ⟨e1, rv⟩ := h1
      cases ps with
      | cons p1 p2 p3 =>
        obtain ⟨d, ed, sd⟩ := hv 0 k v q.2 rfl rv
        cases ds with
        | nil => simp at hl
        | cons x ds' =>
          simp at ed
          subst ed
          have ih := shown_pairs h2 p3 (ds := ds') (fun i k' v' u' e r' => by
            obtain ⟨d', g1, g2⟩ := hv (i + 1) k' v' u' (by simpa using e) r'
            exact ⟨d', by simpa using g1, g2⟩) (by simpa using hl)
          have e1' : k = q.1 := e1
          rw [List.map_cons, List.map_cons, List.map_cons, List.map_cons]
          refine ⟨.cons (Shown.key (k := k) ?_) ih.1, .cons ?_ ih.2⟩
          · rw [e1']
            exact p1
          · show Shown P w h _ d
            rw [p2]
            exact sd
mutual
theorem Dt.shown (I : Inv X pins σ H s) : ∀ {v : V} {d : PyData}, Dt H v d → ∀ {u : Value}, RelV v u → Shown X.prog X.w s.heap u d
  | _, _, .non, _, r => by
    cases r
    exact ⟨⟨_, Reads.none⟩, fun _ _ => ⟨[], (fun _ z => nomatch z), by rw [PyData.shown]; exact .of_is ReprIs.none _ _ _⟩⟩
  | _, _, .bl b, _, r => by
    cases r
    exact ⟨⟨_, Reads.bool b⟩, fun _ _ => ⟨[], (fun _ z => nomatch z), by rw [PyData.shown]; exact .of_is (ReprIs.bool b) _ _ _⟩⟩
  | _, _, .int i, _, r => Shown.key (k := .inl i) (by obtain ⟨t, rfl⟩ := r; exact keyIs_int i t)
  | _, _, .str x, _, r => Shown.key (k := .inr x) (by obtain ⟨t, rfl⟩ := r; exact keyIs_str x t)
  | _, _, .lst (a := a) (xs := xs) h t, _, r => by
    cases r
    obtain ⟨_, its, n, rv, g⟩ := (show ObjOk X.prog X.w H s.heap a (.lst xs) from I.hok a _ h)
    exact Shown.list g rfl rfl (DtAll.shown I t rv)
  | _, _, .tup (a := a) (xs := xs) h t, _, r => by
    cases r
    obtain ⟨_, its, rv, o, g, c, n, e⟩ := (show ObjOk X.prog X.w H s.heap a (.tup xs) from I.hok a _ h)
    exact Shown.tuple g c e (DtAll.shown I t rv)
  | _, _, .dct (a := a) (kvs := kvs) (es := ds) h t, _, r => by
    cases r
    obtain ⟨_, sys, us, kv, o, es, ep, g, ex, e, _, ps, _⟩ := (show ObjOk X.prog X.w H s.heap a (.dK kvs) from I.hok a _ h)
    obtain ⟨s1, s2⟩ := shown_pairs kv ps (fun i k v u q r => DtKv.shown I t i k v u q r) (DtKv.len t)
    exact Shown.dict g ex.1 e sys s1 s2
theorem DtAll.shown (I : Inv X pins σ H s) : ∀ {vs : List V} {ds : List PyData}, DtAll H vs ds → ∀ {us : List Value}, Vals vs us → ShownAll X.prog X.w s.heap us ds
  | _, _, .nil, _, r => by
    cases r
    exact .nil
  | _, _, .cons h t, _, r => by
    cases r with
    | cons r1 r2 => exact .cons (Dt.shown I h r1) (DtAll.shown I t r2)
theorem DtKv.shown (I : Inv X pins σ H s) : ∀ {kvs : List (Key × V)} {ds : List (PyData × PyData)}, DtKv H kvs ds → ∀ (i : Nat) (k : Key) (v : V) (u : Value), kvs[i]? = some (k, v) → RelV v u → ∃ d, ds[i]? = some (kD k, d) ∧ Shown X.prog X.w s.heap u d
  | _, _, .nil, _, _, _, _, q, _ => by simp at q
  | _, _, .cons h t, 0, k, v, u, q, r => by
    simp at q
    obtain ⟨rfl, rfl⟩ := q
    exact ⟨_, rfl, Dt.shown I h r⟩
  | _, _, .cons h t, i + 1, k, v, u, q, r => by
    obtain ⟨d, g1, g2⟩ := DtKv.shown I t i k v u (by simpa using q) r
    exact ⟨d, by simpa using g1, g2⟩
end
end
end Cr
/-! Cr, part 3: repr as a rule; zip of a text and a tuple. -/
namespace Cr
open PySem PySem.Spec PyProof.Rows L2 Evl

/-- data whose text is short enough -/
structure Fits (d : PyData) : Prop where
  show1 : d.showable = true
  deep : d.depth ≤ 50
  size : d.shown.length ≤ sizeLine

def rRepr : List V → Hp → VK → Prop := fun xs H Q => ∃ v d, xs = [v] ∧ Dt H v d ∧ Fits d ∧ Q (.str d.shown) H
theorem call_reprG {X : Cx} (hq : Quiet X.A) (hu : X.A.units + 64 < cLine) : CallR X (.builtin "repr") rRepr := by
  intro pins s σ H xs us Q I r h
  obtain ⟨v, d, rfl, hd, fit, q⟩ := h
  obtain ⟨u, rfl, ru⟩ := vals1 r
  have fin : ∀ (h' : Heap) (t tk : Nat), (∀ b o, s.heap.get? b = some o → h'.get? b = some o) → EP X pins σ Q (.str d.shown t) { s with heap := h', toks := tk } :=
    fun h' t tk hk => ⟨.str d.shown, H, I.kept hk, ⟨t, rfl⟩, q⟩
  have dp := fit.deep
  have sz := fit.size
  have sw := fit.show1
  cases hd with
  | non =>
    cases ru
    rw [PyData.shown] at q
    exact PySem.P.repr_of_none ⟨.str _, H, I.tok _, ⟨_, rfl⟩, q⟩
  | bl b =>
    cases ru
    rw [PyData.shown] at q
    exact PySem.P.repr_of_bool ⟨.str _, H, I.tok _, ⟨_, by cases b <;> rfl⟩, q⟩
  | int i =>
    obtain ⟨t, rfl⟩ := ru
    rw [PyData.shown] at q
    exact PySem.P.repr_of_int (by simpa [PyData.showable] using sw) ⟨.str _, H, I.tok _, ⟨_, rfl⟩, q⟩
  | str x =>
    obtain ⟨t, rfl⟩ := ru
    rw [PyData.shown] at q sz
    exact PySem.P.repr_of_str ⟨.str _, H, I.tok _, ⟨_, rfl⟩, q⟩ sz
  | @lst a xs ds h t =>
    cases ru
    obtain ⟨_, its, n, rv, g⟩ := (show ObjOk X.prog X.w H s.heap a (.lst xs) from I.hok a _ h)
    have S : ShownAll X.prog X.w s.heap its ds := DtAll.shown I t rv
    obtain ⟨⟨as, ra⟩, sa⟩ := S
    rw [PyData.showable] at sw
    rw [PyData.depth] at dp
    have R : Reads s.heap (.ref a) (.list ds) (a :: as) := .list g rfl rfl (by simpa using ra)
    rw [PyData.shown] at sz
    obtain ⟨bs, m, k⟩ := sa sw fun t ht => Nat.le_trans (listText_mem_le ht) sz
    have no : a ∉ bs := not_mem_of_deeper R (by rw [PyData.depth]; omega) m
    refine call_repr_slot (by omega) ⟨_, g, rfl⟩ F.slot_list_repr.toG ?_
    cases its with
    | nil =>
      cases ra
      refine call_list_repr_empty ⟨_, g, rfl⟩ g rfl ?_
      refine ⟨_, _, rfl, ?_⟩
      have e : (PyData.list []).shown = ("[]" : Str) := by rw [PyData.shown, PyData.shownAll, listText_nil]
      rw [e] at fin
      exact fin s.heap _ _ fun _ _ z => z
    | cons x l =>
      refine call_list_reprK (s := s) g rfl rfl no (by simpa using k.length_eq) (fun i y e => k.item i y (by simpa using e)) hq (fun b _ => Clear.nil b) (show X.A.units + 1 + (PyData.depthAll ds + 1) < cLine by omega) (fun _ _ z => z) (fun h' t tk hk => ?_) sz
      refine ⟨_, _, rfl, ?_⟩
      have z := fin h' t tk hk
      rw [PyData.shown] at z
      exact z
  | @tup a xs ds h t =>
    cases ru
    obtain ⟨_, its, rv, o, g, c, n, e⟩ := (show ObjOk X.prog X.w H s.heap a (.tup xs) from I.hok a _ h)
    have S : ShownAll X.prog X.w s.heap its ds := DtAll.shown I t rv
    obtain ⟨⟨as, ra⟩, sa⟩ := S
    rw [PyData.showable] at sw
    rw [PyData.depth] at dp
    have R : Reads s.heap (.ref a) (.tuple ds) as := .tuple g c e (by simpa using ra)
    rw [PyData.shown] at sz
    obtain ⟨bs, m, k⟩ := sa sw fun t ht => Nat.le_trans (tupleText_mem_le ht) sz
    have no : a ∉ bs := not_mem_of_deeper R (by rw [PyData.depth]; omega) m
    refine call_repr_slot (by omega) ⟨_, g, c⟩ F.slot_tuple_repr ?_
    refine call_tuple_reprK (s := s) g c e no (by simpa using k) hq (fun b _ => Clear.nil b) (show X.A.units + 1 + (PyData.depthAll ds + 1) < cLine by omega) (fun _ _ z => z) (fun h' t tk hk => ?_) sz
    refine ⟨_, _, rfl, ?_⟩
    have z := fin h' t tk hk
    rw [PyData.shown] at z
    exact z
  | @dct a kvs ds h t =>
    cases ru
    obtain ⟨_, sys, us, kv, o, es, ep, g, ex, e, _, ps, _⟩ := (show ObjOk X.prog X.w H s.heap a (.dK kvs) from I.hok a _ h)
    obtain ⟨s1, s2⟩ := shown_pairs kv ps (fun i k v u q r => DtKv.shown I t i k v u q r) (DtKv.len t)
    obtain ⟨⟨as, ra⟩, sa⟩ := s1
    obtain ⟨⟨bs, rb⟩, sb⟩ := s2
    rw [PyData.showable] at sw
    rw [PyData.depth] at dp
    have R : Reads s.heap (.ref a) (.dict ds) (a :: as ++ bs) := .dict g ex.1 e ra rb
    have sz2 := sz
    rw [PyData.shown] at sz
    obtain ⟨w1, w2⟩ := PyData.showableKv_split ds sw
    obtain ⟨b1, m1, k1⟩ := sa w1 fun t ht => let ⟨p, hp, hl⟩ := PyData.shownKv_key_le ds t ht; Nat.le_trans hl (Nat.le_trans (dictText_mem_le hp) sz)
    obtain ⟨b2, m2, k2⟩ := sb w2 fun t ht => let ⟨p, hp, hl⟩ := PyData.shownKv_val_le ds t ht; Nat.le_trans hl (Nat.le_trans (dictText_mem_le hp) sz)
    have m := (m1.mono (PyData.depthAll_keys_le ds)).append (m2.mono (PyData.depthAll_vals_le ds))
    refine call_repr_slot (by omega) ⟨_, g, ex.1⟩ F.slot_dict_repr ?_
    refine call_dict_reprK (s := s) g ex.1 e sys (not_mem_of_deeper R (by rw [PyData.depth]; omega) m) (ReprEntriesK.of_two es.toList _ _ (k1.more_le (fun b hb => List.mem_append_left _ hb) (PyData.depthAll_keys_le ds)) (k2.more_le (fun b hb => List.mem_append_right _ hb) (PyData.depthAll_vals_le ds)))
      hq (fun b _ => Clear.nil b) (show X.A.units + 1 + (PyData.depthKv ds + 1) < cLine by omega) (fun _ _ z => z) (fun h' t tk hk => ?_) (by rw [← PyData.shownKv_eq]; exact sz)
    refine ⟨_, _, rfl, ?_⟩
    have z := fin h' t tk hk
    rw [PyData.shown, PyData.shownKv_eq] at z
    exact z
theorem rc_repr {H : Hp} {v : V} {d : PyData} (h : Dt H v d) (f : Fits d) : RC rRepr [v] H (.str d.shown) := fun H1 e Q q =>
  ⟨v, d, rfl, Dt.ex e h, f, q H1 (Ex.refl H1)⟩
end Cr
/-! Cr, part 4: zip of a text and a tuple; comprehensions over any walk. -/
namespace Cr
open PySem PySem.Spec PyProof.Rows L2 Evl

/-- zip of the text z and the tuple at b: new pairs -/
def ItzS (K : PySem.W.Frag) (z : Str) (b : Addr) : It where
  go := fun i H => ∃ (ys : List V) (c : Nat) (y : V), SqT K H b ys ∧ z.cps[i]? = some c ∧ ys[i]? = some y
  yld := fun i H v H' => ∃ T c y, v = .ref T ∧ H T = none ∧ H' = upd H T (.tup [.str ⟨#[c]⟩, y]) ∧ z.cps[i]? = some c ∧ ∀ ys, SqT K H b ys → ys[i]? = some y
  stop := fun i H => ∃ ys : List V, SqT K H b ys ∧ i ≤ z.cps.size ∧ i ≤ ys.length ∧ (i = z.cps.size ∨ i = ys.length)

theorem zipSep (I b : Nat) (h2 : b < I) : ZipSep2 (I + 4) (I + 2) (I + 3) I (I + 1) [I] [I + 1, b] := by
  constructor <;> (try simp) <;> (intro e; have e' : (_ : Nat) = _ := e; omega)

section
variable {prog : Program} {w : World} {A : Around} {E : Value → Shared → Prop} {s : Shared}
theorem next_zipS {z TI TO i1 i2 : Addr} {fp1 fp2 : List Addr} {n1 n2 i : Nat} {P1 P2 : Nat → Value → Prop} {St1 St2 : Nat → Heap → Prop} {a1 a2 : Value} {Q : Option Value → Shared → Prop}
    (S : ZipSep2 z TI TO i1 i2 fp1 fp2) (D1 : Draws prog w A.in1 i1 fp1 n1 P1 St1) (D2 : Draws prog w A.in1 i2 fp2 n2 P2 St2)
    (hz : IsZip s.heap z TI TO .none) (hTI : IsTupOf2 s.heap TI (.ref i1) (.ref i2)) (hTO : IsTupOf2 s.heap TO a1 a2) (st1 : St1 i s.heap) (st2 : St2 i s.heap) (h1 : i < n1) (h2 : i < n2)
    (hQ : ∀ x1 x2 h' tk, P1 i x1 → P2 i x2 → IsZip h' z TI TO (rawInt s.heap.objs.size) → IsTupOf2 h' TO x1 x2 → St1 (i + 1) h' → St2 (i + 1) h' → IsTupOf2 h' s.heap.objs.size x1 x2 →
      (∀ c o, c ≠ z → c ≠ TO → c ≠ i1 → c ≠ i2 → s.heap.get? c = some o → h'.get? c = some o) → Q (some (.ref s.heap.objs.size)) { s with heap := h', toks := tk }) :
    wpAny (model prog w) A (pyNext (.ref z)) Q E s := by
  have hT : s.TypeIs (.ref z) "zip" := ⟨_, hz, rfl⟩
  unfold pyNext
  refine wpAny_bind (wpAny_attempt (wpAny_callSpecial?_slot (name := Str.ofString "__next__") hT F.slot_zip_next (wpAny_call_entry F.slot_zip_next hT F.entry_zip_next ?_ (F.args_zip_next_1 _))))
  exact zipD2_next_item S D1 D2 hz hTI hTO st1 st2 h1 h2 fun x1 x2 h' tk p1 p2 g1 g2 g3 g4 g5 g6 g7 => wpAny_pure (hQ x1 x2 h' tk p1 p2 g1 g2 g3 g4 g5 g7)
theorem next_zipS_end {z TI TO i1 i2 : Addr} {fp1 fp2 : List Addr} {n1 n2 i : Nat} {P1 P2 : Nat → Value → Prop} {St1 St2 : Nat → Heap → Prop} {a1 a2 : Value} {Q : Option Value → Shared → Prop}
    (S : ZipSep2 z TI TO i1 i2 fp1 fp2) (D1 : Draws prog w A.in1 i1 fp1 n1 P1 St1) (D2 : Draws prog w A.in1 i2 fp2 n2 P2 St2)
    (hz : IsZip s.heap z TI TO .none) (hTI : IsTupOf2 s.heap TI (.ref i1) (.ref i2)) (hTO : IsTupOf2 s.heap TO a1 a2) (st1 : St1 i s.heap) (st2 : St2 i s.heap) (h1 : i ≤ n1) (h2 : i ≤ n2) (he : i = n1 ∨ i = n2)
    (hQ : ∀ h' tk, (∀ c o, c ≠ z → c ≠ TO → c ≠ i1 → c ≠ i2 → s.heap.get? c = some o → h'.get? c = some o) → Q none { s with heap := h', toks := tk }) :
    wpAny (model prog w) A (pyNext (.ref z)) Q E s := by
  have hT : s.TypeIs (.ref z) "zip" := ⟨_, hz, rfl⟩
  unfold pyNext
  refine wpAny_bind (wpAny_attempt (wpAny_callSpecial?_slot (name := Str.ofString "__next__") hT F.slot_zip_next (wpAny_call_entry F.slot_zip_next hT F.entry_zip_next ?_ (F.args_zip_next_1 _))))
  refine zipD2_next_end S D1 D2 hz hTI hTO st1 st2 h1 h2 he fun h' tk e hk hex => ?_
  obtain ⟨o, ho, hc⟩ := hex
  refine wpAny_bind (wpAny_isInstance (T := "StopIteration") (b := true) ⟨o, ho, hc⟩ isSubtype_stop ?_)
  exact wpAny_pure (hQ h' tk hk)
end

theorem turn_zipS {P : Program} {w : World} {K : PySem.W.Frag} {elts : List Expr} {kk : Nat} {tpos : Pos} {x : Str} {t : Tok} {b z TI TO i1 i2 : Addr} (D : ZipSep2 z TI TO i1 i2 [i1] [i2, b]) (hb2 : b ≠ i2) :
    Turn P w K (.Tuple elts kk tpos) (ItzS K x b) [z, TI, TO, i1, i2] z (fun i h => IsZip h z TI TO .none ∧ IsTupOf2 h TI (.ref i1) (.ref i2) ∧ (∃ u v, IsTupOf2 h TO u v) ∧ h.IsStrIter i1 (strIterType x) x t i ∧ h.IsTupleIter i2 b i) where
  mem := List.mem_cons_self ..
  obj := fun i h st c hc => by
    obtain ⟨hz, hTI, ⟨u, v, hTO⟩, ⟨o1, e1, _, d1⟩, ⟨o2, e2, _, d2⟩⟩ := st
    simp only [List.mem_cons, List.not_mem_nil, or_false] at hc
    rcases hc with rfl | rfl | rfl | rfl | rfl
    · exact ⟨_, hz, fun _ q => nomatch q⟩
    · exact ⟨_, hTI, fun _ q => nomatch q⟩
    · exact ⟨_, hTO, fun _ q => nomatch q⟩
    · exact ⟨o1, e1, fun _ q => by rw [d1] at q; cases q⟩
    · exact ⟨o2, e2, fun _ q => by rw [d2] at q; cases q⟩
  keep := fun i h h' st k => by
    obtain ⟨hz, hTI, ⟨u, v, hTO⟩, ⟨o1, e1, r1⟩, h2⟩ := st
    exact ⟨k z (by simp) _ hz, k TI (by simp) _ hTI, ⟨u, v, k TO (by simp) _ hTO⟩, ⟨o1, k i1 (by simp) o1 e1, r1⟩, h2.at fun o q => k i2 (by simp) o q⟩
  item := by
    intro X hP hw hK hc i pins s σ H E I hf st hg
    subst hP hw hK
    obtain ⟨hz, hTI, ⟨u0, v0, hTO⟩, h1, h2⟩ := st
    obtain ⟨ys, c, y, hqy, hx, hy⟩ := hg
    obtain ⟨its, rv, p, _⟩ := I.tuple hqy
    obtain ⟨u2, hu2, ru2⟩ := rv.get hy
    have hzl : z < s.heap.objs.size := Heap.lt_size hz
    have hi1 : i < x.cps.size := (Array.getElem?_eq_some_iff.mp hx).1
    have hi2 : i < its.toArray.size := by
      have := (List.getElem?_eq_some_iff.mp hu2).1
      simpa using this
    refine next_zipS D (Draws.text (A := X.A.in1) (I.ok.hd hc) i1 x t) (Draws.tuple (A := X.A.in1) (I.ok.hd hc) i2 b hb2 its.toArray) hz hTI hTO h1 ⟨h2, p⟩ hi1 hi2 ?_
    rintro x1 x2 h' tk ⟨c', u', hc', rfl⟩ p2 z' TO' h1' ⟨h2', _⟩ hT hk
    have ec : c' = c := Option.some.inj (hc'.symm.trans hx)
    have e2 : x2 = u2 := by
      have q : its.toArray[i]? = some u2 := by simpa using hu2
      exact Option.some.inj (p2.symm.trans q)
    subst ec e2
    refine ⟨_, rfl, wpAny_letOwnedTupleGo_zip (s := { s with heap := h', toks := tk }) z' fun h'' z'' sb => ?_⟩
    have hT2 : h''.get? s.heap.objs.size = some { cls := .type "tuple", data := .seq #[.str ⟨#[c']⟩ u', x2] } := (sb.2 _ (Nat.ne_of_gt hzl)).trans hT
    have new : ObjOk X.prog X.w (upd H s.heap.objs.size (.tup [.str ⟨#[c']⟩, y])) h'' s.heap.objs.size (.tup [.str ⟨#[c']⟩, y]) :=
      ⟨by show 2 ≤ sizeLine; decide, [.str ⟨#[c']⟩ u', x2], .cons ⟨u', rfl⟩ (.cons ru2 .nil), ⟨_, hT2, rfl, _, rfl⟩⟩
    have kept : ∀ d o, d ∉ [z, TI, TO, i1, i2] → s.heap.get? d = some o → h''.get? d = some o := fun d o hd q => by
      simp only [List.mem_cons, List.not_mem_nil, or_false, not_or] at hd
      exact (sb.2 d hd.1).trans (hk d o hd.1 hd.2.2.1 hd.2.2.2.1 hd.2.2.2.2 q)
    have I1 := I.turnedNew (t' := tk) (ch := [z, TI, TO, i1, i2]) kept hf (Nat.le_refl _) new
    obtain ⟨o1, e1, r1⟩ := h1'
    refine ⟨.ref s.heap.objs.size, _, I1, rfl, ⟨_, c', y, rfl, I.hok.fresh (Nat.le_refl _), rfl, hx, fun l hl => by rw [I.tuple_inj hl hqy]; exact hy⟩, ⟨z'', ?_, ⟨.str ⟨#[c']⟩ u', x2, ?_⟩, ?_, ?_⟩, fun d hd => ?_⟩
    · exact (sb.2 _ D.TIz).trans (hk _ _ D.TIz D.TITO D.TIi1 D.TIi2 hTI)
    · exact (sb.2 _ D.TOz).trans TO'
    · exact ⟨o1, (sb.2 _ D.zi1.symm).trans e1, r1⟩
    · exact h2'.at fun o q => (sb.2 _ D.zi2.symm).trans q
    · have hlt : d < s.heap.objs.size := by
        have hd' := hd
        simp only [List.mem_cons, List.not_mem_nil, or_false] at hd'
        rcases hd' with rfl | rfl | rfl | rfl | rfl
        · exact hzl
        · exact Heap.lt_size hTI
        · exact Heap.lt_size hTO
        · obtain ⟨_, e1, _⟩ := h1
          exact Heap.lt_size e1
        · obtain ⟨_, e2, _⟩ := h2
          exact Heap.lt_size e2
      rw [upd_ne (Nat.ne_of_lt hlt)]
      exact (hf d hd).1
  done := by
    intro X hP hw hK hc i pins s σ H E I hf st hg
    subst hP hw hK
    obtain ⟨hz, hTI, ⟨u0, v0, hTO⟩, h1, h2⟩ := st
    obtain ⟨ys, hqy, l1, l2, hend⟩ := hg
    obtain ⟨its, rv, p, _⟩ := I.tuple hqy
    have len := rv.length
    refine next_zipS_end D (Draws.text (A := X.A.in1) (I.ok.hd hc) i1 x t) (Draws.tuple (A := X.A.in1) (I.ok.hd hc) i2 b hb2 its.toArray) hz hTI hTO h1 ⟨h2, p⟩ l1 (by simp; omega) (by rcases hend with q | q; exact .inl q; exact .inr (by simp; omega)) ?_
    intro h' tk hk
    refine ⟨rfl, I.turnedL (t' := tk) (ch := [z, TI, TO, i1, i2]) (fun d o hd q => ?_) hf⟩
    simp only [List.mem_cons, List.not_mem_nil, or_false, not_or] at hd
    exact hk d o hd.1 hd.2.2.1 hd.2.2.2.1 hd.2.2.2.2 q
  self := fun A i s Q E st h => wpAny_pyIter_zip st.1 h

def iZipS (K : PySem.W.Frag) (ta : TA) : TI := fun σ H R => ta σ H fun vs H1 => ∃ x b ys, vs = [.str x, .ref b] ∧ SqT K H1 b ys ∧ R (ItzS K x b) H1
theorem pi_zipS {X : Cx} {e e2 : Expr} {ta : TA} {p pos tpos : Pos} {elts : List Expr} {kk : Nat} (hg : Gl X "zip") (hm : X.mg "zip" = none) (ha : PA X [e, e2] ta)
    (hs : starEach [e, e2] X.env = (false, eval e X.env) :: starEach [e2] X.env := by rfl) (hpl : (backTo pos (starEach [e2] X.env)).any (·.1) = false := by rfl) :
    PI X (.Tuple elts kk tpos) (.Call (.Name "zip" p) [e, e2] [] pos) (iZipS X.K ta) := by
  constructor
  intro pins s σ H R I h
  refine Call_ (ld_blt I hg hm PyProof.Rows.boot_zip (PyProof.Rows.callWith_type1 (thn (ha.run pos pins s σ H _ I h) ?_) hs hpl))
  rintro us s1 ⟨vs, H1, I1, r1, x, b, ys, rfl, hqy, q⟩
  obtain ⟨u1, u2, rfl, ⟨t, rfl⟩, r2⟩ := vals2 r1
  cases (show u2 = Value.ref b from r2)
  obtain ⟨its, rv, p2, _⟩ := I1.tuple hqy
  obtain ⟨o2, ho2, _⟩ := id p2
  have hb : b < s1.heap.objs.size := Heap.lt_size ho2
  refine zip_begins2 (begins_text x t) (begins_tuple b its.toArray) trivial p2 ?_
  intro h' hz hTI hTO g1 g2 hsz hk
  refine wpAny_pyIter_zip (s := { s1 with heap := h' }) hz ?_
  have I2 : Inv X pins σ H1 { s1 with heap := h' } := I1.kept (t' := s1.toks) hk
  refine ⟨s1.heap.objs.size + 4, [s1.heap.objs.size + 4, s1.heap.objs.size + 2, s1.heap.objs.size + 3, s1.heap.objs.size, s1.heap.objs.size + 1], _, _, H1, rfl, I2,
    turn_zipS (t := t) (zipSep s1.heap.objs.size b hb) (Nat.ne_of_lt (Nat.lt_succ_of_lt hb)), ⟨hz, hTI, ⟨_, _, hTO⟩, ⟨_, g1, rfl, rfl⟩, ⟨_, g2, rfl, rfl⟩⟩, fun c hc => ?_, q⟩
  have hle : s1.heap.objs.size ≤ c := by
    simp only [List.mem_cons, List.not_mem_nil, or_false] at hc
    rcases hc with e | e | e | e | e <;> rw [e] <;> first | exact Nat.le_add_right _ _ | exact Nat.le_refl _
  exact I1.fpOk hle (I1.hok.fresh hle)

theorem walk_zipS {K : PySem.W.Frag} {x : Str} {b : Addr} {ys : List V} {n : Nat} (hn : n = min x.cps.size ys.length) :
    Walk (ItzS K x b) n (fun H => SqT K H b ys) (YPair (fun i => (x.cps[i]?).map fun c => .str ⟨#[c]⟩) fun i => ys[i]?) where
  goes := fun i H hi h => ⟨ys, x.cps[i]'(by omega), ys[i]'(by omega), h, by simp [show i < x.cps.size by omega], by simp [show i < ys.length by omega]⟩
  stops := fun H h => ⟨ys, h, by omega, by omega, by omega⟩
  yields := fun i H v H' hi h q => by
    obtain ⟨T, c, y, rfl, hT, rfl, hc, hy⟩ := q
    exact ⟨T, .str ⟨#[c]⟩, y, rfl, hT, rfl, by simp [hc], hy ys h⟩
theorem walk_zipT {K : PySem.W.Frag} {a b : Addr} {xs ys : List V} {n : Nat} (hn : n = min xs.length ys.length) :
    Walk (RZ.ItzT K a b) n (fun H => SqT K H a xs ∧ SqT K H b ys) (YPair (fun i => xs[i]?) fun i => ys[i]?) where
  goes := fun i H hi h => ⟨xs, ys, xs[i]'(by omega), ys[i]'(by omega), h.1, h.2, by simp [show i < xs.length by omega], by simp [show i < ys.length by omega]⟩
  stops := fun H h => ⟨xs, ys, h.1, h.2, by omega⟩
  yields := fun i H v H' hi h q => by
    obtain ⟨T, x, y, rfl, hT, rfl, hx, hy⟩ := q
    exact ⟨T, x, y, rfl, hT, rfl, hx xs h.1, hy ys h.2⟩

/-- a comprehension over any walk, which may be one of new things -/
theorem el_lcW {wi : TI} {g : TG} {tt : TT} {te : TE} {vs : List Nat} {σ : L2.St} {H : Hp} {n : Nat} {Y : Nat → Hp → V → Hp → Prop}
    (f : Nat → Bool) (v : Nat → V) (hn : n ≤ 40000)
    (hi : ∀ H1, Ex H H1 → ∀ R : It → Hp → Prop, (∀ H2 (J : It) (G : Hp → Prop), Walk J n G Y → (∀ H3 H4, Ex H3 H4 → G H3 → G H4) → Ex H1 H2 → G H2 → R J H2) → wi σ H1 R)
    (hs : ∀ i x H1 H2, Ex H H1 → i < n → Y i H1 x H2 → Ex H1 H2 ∧ ∃ σ2, wipe σ2 vs = wipe σ vs ∧ (∀ R : L2.St → Hp → Prop, R σ2 H2 → g x (wipe σ vs) H2 R) ∧ EvT tt σ2 H2 (f i) ∧ (f i = true → Ev te σ2 H2 (v i))) :
    EvL (tLc wi g tt te vs) σ H (given n f v) := by
  intro H0 e Q q
  refine hi H0 e _ fun H1 J G w hG e1 g1 D hD => ?_
  refine lc_it w (Cw H1 f v D) ⟨hD, Ex.new hD, upd_same⟩ (fun i H2 _ p => hG H1 H2 p.2.1 g1) (fun i x H2 H3 hlt p y => ?_) (fun H2 p => q D H2 (fresh_back e1 p.1) (e1.trans p.2.1) p.2.2)
  obtain ⟨p1, p2, p3⟩ := p
  obtain ⟨e2, σ2, hw, hgo, ht, he⟩ := hs i x H2 H3 ((e.trans e1).trans p2) hlt y
  refine hgo _ ⟨hw, ht H3 (Ex.refl H3) _ fun H4 e4 => ?_⟩
  cases hf : f i with
  | true =>
    rw [if_pos rfl]
    refine he hf H4 e4 _ fun H5 e5 => ⟨given i f v, e5 D _ (e4 D _ (e2 D _ p3)), sz_lt (by have := given_len i f v; omega), p1, Ex.mut (((p2.trans e2).trans e4).trans e5) p1, ?_⟩
    rw [given_yes hf]
    exact upd_same
  | false =>
    rw [if_neg Bool.false_ne_true]
    refine ⟨p1, (p2.trans e2).trans e4, ?_⟩
    rw [given_no hf]
    exact e4 D _ (e2 D _ p3)
end Cr
/-! Cr, part 5: small data, promises of one datum, evaluations that serve many defs. -/
namespace Cr
open PySem PySem.Spec PyProof.Rows L2 Evl

mutual
/-- texts and sequences of moderate size -/
def sm : PyData → Bool
  | .none | .bool _ | .int _ => true
  | .str x => decide (x.length ≤ 1000)
  | .list xs | .tuple xs => decide (xs.length ≤ 1000) && smAll xs
  | .dict _ => true
def smAll : List PyData → Bool
  | [] => true
  | x :: xs => sm x && smAll xs
end
theorem smAll_get : ∀ {ds : List PyData} {i : Nat} {d : PyData}, smAll ds = true → ds[i]? = some d → sm d = true
  | [], _, _, _, h => by simp at h
  | x :: xs, 0, d, h, e => by
    simp at e; subst e
    rw [smAll, Bool.and_eq_true] at h
    exact h.1
  | x :: xs, i + 1, d, h, e => by
    rw [smAll, Bool.and_eq_true] at h
    exact smAll_get h.2 (by simpa using e)

/-- a def that answers a datum with a bool -/
def spD (f : PyData → Bool) : Sp := fun vs H Q _ => ∃ v d, vs = [v] ∧ Dt H v d ∧ sm d = true ∧ ∀ H', Ex H H' → Q (.bl (f d)) H'
theorem spD_len {f : PyData → Bool} : ∀ vs H Q E, spD f vs H Q E → vs.length = 1 := fun vs H Q E h => by
  obtain ⟨v, d, rfl, _⟩ := h
  rfl
theorem spv_D {f : PyData → Bool} {H : Hp} {v : V} {d : PyData} (h : Dt H v d) (s : sm d = true) : SpV (spD f) [v] H (.bl (f d)) := fun H1 e Q q E =>
  ⟨v, d, rfl, Dt.ex e h, s, q⟩

section
variable {K : PySem.W.Frag} {σ : L2.St} {H : Hp} {ta tb tc te : TE} {x y z w v : V} {r r' : R2}
theorem ev_chain {k k' : Bool} (ha : Ev ta σ H x) (hb : Ev tb σ H y) (hr : RV r x y H (.bl k)) (hc : k = true → Ev tc σ H w) (hr' : k = true → RV r' y w H (.bl k')) : Ev (tChain r r' ta tb tc) σ H (.bl (k && k')) := fun H1 e Q q =>
  ha H1 e _ fun H2 e2 => hb H2 (e.trans e2) _ fun H3 e3 => hr H3 ((e.trans e2).trans e3) _ fun H4 e4 => ⟨k, rfl, by
    have e14 := (e2.trans e3).trans e4
    cases k with
    | true =>
      rw [if_pos rfl]
      exact hc rfl H4 (e.trans e14) _ fun H5 e5 => hr' rfl H5 ((e.trans e14).trans e5) Q fun H6 e6 => q H6 ((e14.trans e5).trans e6)
    | false =>
      rw [if_neg Bool.false_ne_true]
      exact q H4 e14⟩
theorem ev_all {bs : List Bool} (h : EvL te σ H (bs.map V.bl)) : Ev (tCB (rAll K) (tCons te tNil)) σ H (.bl (bs.all id)) := fun H1 e Q q =>
  h H1 e _ fun p H2 _ e2 hp => ⟨p, bs, rfl, sq_of hp, q H2 e2⟩
/-- len of a text, of a tracked tuple -/
theorem rc_lenS {s : Str} (h : s.length ≤ 1000) : RC (fun xs H Q => ∃ z, xs = [V.str z] ∧ z.length ≤ sizeLine ∧ Q (.int z.length) H) [.str s] H (.int (s.length : Int)) := fun H1 _ Q q =>
  ⟨s, rfl, sz_of (by omega), q H1 (Ex.refl H1)⟩
theorem rc_lenT {a : Addr} {xs : List V} (h : SqT K H a xs) : RC (fun vs H Q => ∃ p ys, vs = [V.ref p] ∧ (SqL K H p ys ∨ SqT K H p ys) ∧ Q (.int ys.length) H) [.ref a] H (.int (xs.length : Int)) := fun H1 e Q q =>
  ⟨a, xs, rfl, .inr (ex_t e h), q H1 (Ex.refl H1)⟩
theorem rc_lenL {a : Addr} {xs : List V} (h : SqL K H a xs) : RC (fun vs H Q => ∃ p ys, vs = [V.ref p] ∧ (SqL K H p ys ∨ SqT K H p ys) ∧ Q (.int ys.length) H) [.ref a] H (.int (xs.length : Int)) := fun H1 e Q q =>
  ⟨a, xs, rfl, .inl (ex_l e h), q H1 (Ex.refl H1)⟩
theorem cut_tail (v : V) (xs : List V) : cutV (v :: xs) (some 1) none = xs := by
  unfold cutV
  rw [show HT.sIx (v :: xs).length 0 (some 1) = min 1 (v :: xs).length from HT.sIx_nat _ 0 1, HT.sIx_none, show min 1 (v :: xs).length = 1 by rw [List.length_cons]; omega]
  show List.take ((v :: xs).length - 1) xs = xs
  rw [List.length_cons, Nat.add_sub_cancel]
  exact List.take_length
/-- t[1:] of a tuple that is not empty: a new tuple -/
theorem eu_tail {a : Addr} {v : V} {xs : List V} (h : Ev te σ H (.ref a)) (ht : SqT K H a (v :: xs)) : EvU (tSl (rSlT K) te (tPart (tC (.int 1))) tNoPart) σ H xs := fun H1 e Q q =>
  h H1 e _ fun H2 e2 => ⟨1, rfl, a, v :: xs, rfl, ex_t (e.trans e2) ht, by
    rw [show HT.sIx (v :: xs).length 0 (some 1) = min 1 (v :: xs).length from HT.sIx_nat _ 0 1]
    intro z
    have := z.1
    rw [List.length_cons] at this
    omega, fun p hp => by
    rw [cut_tail]
    exact q p _ (fresh_back e2 hp) (e2.trans (Ex.new hp)) upd_same⟩
end

/-! ### texts -/
def rLeS : R2 := fun x y H Q => ∃ i j, x = .str i ∧ y = .str j ∧ Q (.bl (!decide (j.cps.toList < i.cps.toList))) H
theorem op_leS {X : Cx} : OpR X (compareOp .LtE) rLeS := op_le_str
theorem rv_leS {i j : Str} {H : Hp} : RV rLeS (.str i) (.str j) H (.bl (!decide (j.cps.toList < i.cps.toList))) := fun H1 _ Q q => ⟨i, j, rfl, rfl, q H1 (Ex.refl H1)⟩
theorem one_lt (a b : Nat) : decide ([a] < [b]) = decide (a < b) := by
  by_cases h : a < b
  · rw [decide_eq_true h, decide_eq_true (List.cons_lt_cons_iff.mpr (.inl h))]
  · rw [decide_eq_false h, decide_eq_false]
    intro z
    rcases List.cons_lt_cons_iff.mp z with q | ⟨_, q⟩
    · exact h q
    · exact absurd q (by simp)
def isLow (c : Nat) : Bool := decide (97 ≤ c) && decide (c ≤ 122)
theorem given_all (n : Nat) (v : Nat → V) : given n (fun _ => true) v = (List.range n).map v := by
  unfold given
  rw [List.filter_eq_self.mpr (fun _ _ => rfl)]
theorem all_range {α : Type} (l : List α) (d : α) (p : α → Bool) : ((List.range l.length).map fun i => p (l.getD i d)).all id = l.all p := by
  rw [List.all_map]
  have e : ∀ n, n ≤ l.length → ((List.range n).all fun i => p (l.getD i d)) = (l.take n).all p := by
    intro n
    induction n with
    | zero => intro _; simp
    | succ n ih =>
      intro h
      rw [List.range_succ, List.all_append, ih (by omega), List.take_add_one, List.all_append]
      congr 1
      rw [List.getElem?_eq_getElem (by omega)]
      simp [List.getD, List.getElem?_eq_getElem (show n < l.length by omega)]
  have h := e l.length (Nat.le_refl _)
  rw [List.take_length] at h
  exact h
end Cr
/-! own errors whose making says super().__init__(..) first, over ValueError through classes between -/
namespace Cr
open PySem PySem.Spec PyProof.Rows L2

/-- the names of such a def -/
structure SupScope (N ps : List Str) (sc : Scope) : Prop where
  kind : sc.kind = .function
  co : sc.isCoroutine = false
  gen : sc.isGenerator = false
  nd : N.Nodup
  pre : N.take ps.length = ps
  par : ∀ x ∈ ps, sc.names.lookup x = some .local
  nocell : ∀ y ∈ sc.names, y.2 ≠ .cell
  free : ∀ y ∈ sc.names, y.2 = .free → y.1 = "__class__"
  cls : sc.names.lookup ("__class__" : Str) = some .free
  sup : sc.names.lookup ("super" : Str) = some .globalImplicit

/-- its body's context: no error leaves it -/
def cxSup (P : Program) (w : World) (K : PySem.W.Frag) (mg : Str → Option Value) (base : Heap) (N : List Str) (qual : Str) (scope : Scope) (f cda cc : Addr) (A : Around) (outer : List Env) (s : Shared) (H : Hp) : Cx where
  prog := P
  w := w
  K := K
  mg := mg
  base := base
  A := A.deeper (PySem.W.ksEnv qual scope s.heap.objs.size f (.ref cda) cc)
  N := N
  s_0 := s
  H_0 := H
  env := PySem.W.ksEnv qual scope s.heap.objs.size f (.ref cda) cc
  outer := outer
  stack := PySem.W.ksEnv qual scope s.heap.objs.size f (.ref cda) cc :: outer
  ex := []
  calm := true
  fn := fun _ => false
  pn := []
  xe := fun _ _ => False

theorem look_mem {α : Type} {x : Str} {v : α} : ∀ {l : List (Str × α)}, (l.map (·.1)).Nodup → (x, v) ∈ l → l.lookup x = some v
  | [], _, h => nomatch h
  | (y, u) :: l, nd, h => by
    rcases List.mem_cons.mp h with e | h2
    · cases e; simp [List.lookup]
    · have nd' := List.nodup_cons.mp nd
      have ne : (x == y) = false := by
        refine beq_eq_false_iff_ne.mpr fun z => nd'.1 ?_
        rw [← z]
        exact List.mem_map.mpr ⟨_, h2, rfl⟩
      simp only [List.lookup, ne]
      exact look_mem nd'.2 h2
theorem zip_rev {ps : List Str} {us : List Value} {i : Nat} {x : Str} {u : Value} (nd : ps.Nodup) (h1 : ps[i]? = some x) (h2 : us[i]? = some u) (hl : us.length = ps.length) : (ps.zip us).reverse.lookup x = some u := by
  refine look_mem ?_ ?_
  · rw [List.map_reverse]
    have e : (ps.zip us).map (·.1) = ps := List.map_fst_zip (by omega)
    rw [e]
    exact List.pairwise_reverse.mpr (List.Pairwise.imp (fun h => Ne.symm h) nd)
  · refine List.mem_reverse.mpr ?_
    refine List.mem_of_getElem? (i := i) ?_
    rw [List.getElem?_zip_eq_some]
    exact ⟨h1, h2⟩

section
variable {P : Program} {w : World} {K : PySem.W.Frag} {mg : Str → Option Value} {base : Heap}
theorem inv_sup {N ps : List Str} {qual : Str} {scope : Scope} {f cda cc : Addr} {cl : Value} {cld : Option Addr} {cv : Option Value} {csl : Array (Option Value)} {A : Around} {outer : List Env} {s : Shared} {h₁ : Heap} {tk : Nat} {H : Hp} {us : List Value} {vs : List V}
    (S : SupScope N ps scope) (hd : A.handled = none) (e0 : Env0 P w K mg base A outer s H) (hl : vs.length = ps.length) (r : Vals vs us) (hcell : K.lookup cc = some ⟨cl, cld, .cell cv, csl⟩)
    (hns : h₁.Ns s.heap.objs.size (fun x => (ps.zip us).reverse.lookup x)) (hk : ∀ b o, s.heap.get? b = some o → h₁.get? b = some o) :
    Inv (cxSup P w K mg base N qual scope f cda cc A outer s H) [] (L2.start N vs) H { s with heap := h₁, toks := tk } := by
  have hpl : ps.length ≤ N.length := by have := congrArg List.length S.pre; rw [List.length_take] at this; omega
  have noA : ∀ b : Addr, b ∉ (cxSup P w K mg base N qual scope f cda cc A outer s H).ex := fun b z => absurd (show b ∈ ([] : List Addr) from z) (by simp)
  have one : ∀ {y : Str} {c : Addr}, ([("__class__", cc)] : List (Str × Addr)).lookup y = some c → y = "__class__" ∧ c = cc := fun {y c} h => by
    by_cases z : y = "__class__"
    · subst z
      simp [List.lookup] at h
      exact ⟨rfl, h.symm⟩
    · have e : (y == ("__class__" : Str)) = false := beq_eq_false_iff_ne.mpr z
      simp [List.lookup, e] at h
  have hb := e0.mod.kin _ _ hcell
  have hc1 := e0.bs _ _ hb
  refine ⟨⟨e0.mod, S.kind, rfl, rfl, Nat.le_refl _, fun y z c h1 h2 => (one h1).1.trans (one h2).1.symm, fun y hy => ?_, fun y c z _ => absurd (show false = true from z) (by decide), fun _ => hd, Around.frames_deeper e0.frames, .inr ⟨rfl, rfl⟩, fun b z => absurd z (noA b), e0.bs, e0.bsz, fun b _ _ => noA b, fun b z => absurd z (noA b), e0.funs, e0.frf⟩,
    rfl, e0.bare, Un.kept hk, ⟨_, hns, fun i y v h1 h2 h3 => ?_⟩, fun y c h => ?_, e0.hok.fresh (Nat.le_refl _), fun y c h => ?_, fun p hp => absurd (show p ∈ ([] : List (Addr × Obj)) from hp) (by simp), e0.hok.kept hk, ?_⟩
  · have hy : scope.names.lookup y = some .cell ∨ scope.names.lookup y = some .free := hy
    rcases hy with hy | hy
    · exact absurd rfl (S.nocell _ (PySem.mem_of_lookup hy))
    · have e := S.free _ (PySem.mem_of_lookup hy) rfl
      have e : y = "__class__" := e
      subst e
      exact ⟨cc, by show ([(("__class__" : Str), cc)] : List (Str × Addr)).lookup ("__class__" : Str) = _; simp [List.lookup]⟩
  · have hi : i < vs.length := by
      unfold L2.start at h2
      by_cases hi : i < vs.length
      · exact hi
      · rw [List.getElem?_append_right (by simpa using hi)] at h2
        rw [List.getElem?_replicate] at h2
        split at h2 <;> cases h2
    have ha : vs[i]? = some v := by
      unfold L2.start at h2
      rw [List.getElem?_append_left (by simpa using hi), List.getElem?_map] at h2
      cases e : vs[i]? with
      | none => rw [e] at h2; cases h2
      | some a => rw [e] at h2; cases h2; rfl
    obtain ⟨u, hu, rv⟩ := r.get ha
    have hp : ps[i]? = some y := by
      rw [← S.pre, List.getElem?_take_of_lt (by omega)]; exact h1
    have ndP : ps.Nodup := by rw [← S.pre]; exact S.nd.sublist (List.take_sublist _ _)
    exact ⟨u, rv, .inl ⟨S.par y (List.mem_of_getElem? hp), zip_rev ndP hp hu (r.length.symm.trans hl)⟩⟩
  · obtain ⟨_, rfl⟩ := one h
    exact ⟨cv, _, hk _ _ hc1.1, rfl⟩
  · obtain ⟨_, rfl⟩ := one h
    exact hc1.2
  · unfold L2.start
    show _ = N.length
    rw [List.length_append, List.length_map, List.length_replicate]
    omega

/-- what the written part says of the class and of super() in its __init__ -/
structure SupC (P : Program) (K : PySem.W.Frag) (C cda cc : Addr) : Prop where
  oex : OexC K C
  code : ∃ ccl cdd cvs ccs file tf, K.lookup cda = some ⟨ccl, cdd, .fields cvs, ccs⟩ ∧ cvs[2]? = some (.str file tf) ∧ ((P.main.file : Str) == file) = true
  cell : ∃ cl cld csl, K.lookup cc = some ⟨cl, cld, .cell (some (.ref C)), csl⟩
  self : PySem.W.mroIn K C (.ref C) = some true
  opq : PySem.W.nsIn K cStatics "thirdparty.any" = some none
  up : PySem.W.ks_superIn K C C "__init__" = some (some (.builtin "ValueError.__init__"))
  sub : PySem.W.subIn K (.ref C) (.type "ValueError") = some true
  top : (P.main.scope.names.lookup ("super" : Str)).isSome = false

/-- the bound __init__ of ValueError, called -/
theorem bound_ok {X : Cx} {pins : List (Addr × Obj)} {σ : L2.St} {H : Hp} {s : Shared} {a C u : Addr} {A : Around} {E : Value → Shared → Prop} {us : List Value} {Q : Value → Shared → Prop} (T : OexC X.K C) (I : Inv X pins σ H s) (e : H a = some (exo a C none))
    (hu : s.heap.get? u = some (PySem.W.kxs_mw "ValueError.__init__" a)) (hl : us.length ≤ sizeLine) (h : ∀ s', Inv X pins σ H s' → Q .none s') : wpAny (model X.prog X.w) A (call (.ref u) us) Q E s := by
  obtain ⟨nm, q, N, bs, bm, sn, sub, ab, col, dd, k0, k1, k2, k3, k5, hC, hbm⟩ := T.cls
  obtain ⟨t1, ho⟩ := exo_at I.hok e
  have hC' := I.kIn _ _ hC
  obtain ⟨hp, g, d, t, os⟩ := s
  refine wpAny_call (codeAny_of_tree ?_)
  show wpAny _ A.in1 (callAny (.ref u) ⟨us, []⟩) _ _ _
  simp only [callAny]
  refine wpAny_bind (wpAny_load hu ?_)
  simp only [PySem.W.kxs_mw, show (Value.type "method-wrapper" == Value.type "method" || Value.type "method-wrapper" == Value.type "builtin_function_or_method" || Value.type "method-wrapper" == Value.type "method-wrapper") = true by decide, if_true]
  refine PySem.W.KFB.if_so (by decide) ?_
  refine wpAny_bind (PySem.W.check_bound_init F.excBase_ValueError.toExcCallFacts hC' ho rfl ?_)
  refine wpAny_bind (wpAny_pure (wpAny_pure ?_))
  refine ⟨plainId_quiet F.excBase_ValueError.init.plain _, codeAny_builtin F.excBase_ValueError.initEntry ?_⟩
  refine PySem.W.exc_init_tree (cls := .ref C) (t0 := t1) (dv := none) (c2 := .none) (c3 := .none) (b4 := .bool false) ho hl fun h' k hx _ => ?_
  have J := I.write (t' := t) (x := a) (e := a) (o := exo a C none) (by rw [e]; exact True.intro) (.inl rfl) k ⟨_, hx⟩ (exo_ok hx)
  have eu : upd H a (exo a C none) = H := by
    funext b
    by_cases hb : b = a
    · rw [hb, upd_same, e]
    · rw [upd_ne hb]
  rw [eu] at J
  exact h _ J

/-- THE RULE: def __init__(self, ..): super().__init__(e, ..); rest -/
theorem okSup {name qual : Str} {params : Arguments} {scope : Scope} {dV kV doc pm ct oc : Value} {an od : Option Addr} {osl : Array (Option Value)} {f C cda cc : Addr} {N ps : List Str} {k : Nat} {sp : Sp}
    {p0 p1 p2 p3 p4 : Pos} {e : Expr} {es : List Expr} {rest : List Stmt} {ar : Arg}
    (lk : K.lookup f = some ⟨oc, od, .func (PySem.W.ksFn name qual params (.Expr (.Call (.Attribute (.Call (.Name "super" p0) [] [] p1) "__init__" p2) (e :: es) [] p3) p4 :: rest) scope dV kV doc pm an (.ref cda) ct cc), osl⟩)
    (hcd : PySem.W.codeIn K (.ref cda) qual = true) (S : SupScope N ps scope) (T : SupC P K C cda cc) (hsup : mg "super" = none)
    (hp0 : (params.posonlyargs ++ params.args).head? = some ar) (hself : N[0]? = some ar.arg) (hps : ar.arg ∈ ps)
    (len : ∀ vs H Q E, sp vs H Q E → vs.length = ps.length)
    (hbody : ∀ (A : Around) (outer : List Env) (s : Shared) (H : Hp) (vs : List V) (Q : VK) (E : XK), sp vs H Q E →
      ∃ (a : Addr) (ta : TA) (t : TS), (L2.start N vs)[0]? = some (some (.ref a)) ∧ H a = some (exo a C none) ∧ PA (cxSup P w K mg base N qual scope f cda cc A outer s H) (e :: es) ta ∧
        PSs (cxSup P w K mg base N qual scope f cda cc A outer s H) rest t ∧
        ta (L2.start N vs) H fun ws H1 => ws.length ≤ 1000 ∧ H1 a = some (exo a C none) ∧ t { nx := fun _ H' => Q .non H', rt := Q } (L2.start N vs) H1)
    {pl : Addr → Sem Bool}
    (hc : ∀ L : Addr, eval (.Call (.Attribute (.Call (.Name "super" p0) [] [] p1) "__init__" p2) (e :: es) [] p3) (PySem.W.ksEnv qual scope L f (.ref cda) cc) = (do
      let ov ← attributeBase (.Call (.Name "super" p0) [] [] p1) "__init__" (PySem.W.ksEnv qual scope L f (.ref cda) cc) (eval (.Call (.Name "super" p0) [] [] p1) (PySem.W.ksEnv qual scope L f (.ref cda) cc))
      standAt p2.atName
      let (fx, first) ← holding [ov] (getMethod ov "__init__" (pl L))
      callWith p3 fx first (backTo p3 (starEach (e :: es) (PySem.W.ksEnv qual scope L f (.ref cda) cc))) []) := by intro _; rfl)
    (hint : ∀ L : Addr, interactive (PySem.W.ksEnv qual scope L f (.ref cda) cc) = false := by intro _; rfl)
    (hsw : ∀ L : Addr, swapsWith (.Call (.Attribute (.Call (.Name "super" p0) [] [] p1) "__init__" p2) (e :: es) [] p3) none p4.line (PySem.W.ksEnv qual scope L f (.ref cda) cc) = pure false := by intro _; rfl)
    (he : ∀ L : Addr, starEach (e :: es) (PySem.W.ksEnv qual scope L f (.ref cda) cc) = (false, eval e (PySem.W.ksEnv qual scope L f (.ref cda) cc)) :: starEach es (PySem.W.ksEnv qual scope L f (.ref cda) cc) := by intro _; rfl)
    (hpl : ∀ L : Addr, (backTo p3 (starEach es (PySem.W.ksEnv qual scope L f (.ref cda) cc))).any (·.1) = false := by intro _; rfl) :
    FnOk P w K mg base CX0 (k + 1) f (PySem.W.ksFn name qual params (.Expr (.Call (.Attribute (.Call (.Name "super" p0) [] [] p1) "__init__" p2) (e :: es) [] p3) p4 :: rest) scope dV kV doc pm an (.ref cda) ct cc) ps sp := by
  refine ⟨len, fun A outer s H args us vs Q E hr e0 hb r hsp => ?_⟩
  have keepB : ∀ b o, base.get? b = some o → s.heap.get? b = some o := fun b o e => (e0.bs b o e).1
  obtain ⟨cl, cld, csl, hcell⟩ := T.cell
  obtain ⟨ccl, cdd, cvs, ccs, file, tf, hcode, hvs, hfile⟩ := T.code
  refine ks_codeAny_call_defAt (fd := PySem.W.ksFn name qual params _ scope dV kV doc pm an (.ref cda) ct cc) (binds := ps.zip us) hr.depth ((e0.mod.kin.keeps keepB) _ _ lk) rfl (e0.mod.nolimit.keeps keepB) (PySem.W.codeRec_of (e0.mod.kin.keeps keepB) hcd) rfl hb S.nocell
    (fun x hx => S.par x.1 (List.of_mem_zip (show (x.1, x.2) ∈ ps.zip us from hx)).1) (fun h₁ hns hk => ?_) S.co S.gen S.kind
  obtain ⟨a, ta, t, hs0, hea, hta, ht, hT⟩ := hbody A outer s H vs Q E hsp
  have I : Inv (cxSup P w K mg base N qual scope f cda cc A outer s H) [] (L2.start N vs) H { s with heap := h₁, toks := s.toks + (ps.zip us).length } := inv_sup S hr.hd e0 (len _ _ _ _ hsp) r hcell hns hk
  have kIn := I.kIn
  obtain ⟨m, hn, hlk⟩ := I.loc
  obtain ⟨u0, hu0, hl0⟩ := hlk 0 ar.arg (.ref a) hself hs0 (.inl (S.par _ hps))
  obtain rfl : u0 = Value.ref a := hu0
  have hma : m ar.arg = some (.ref a) := by
    rcases hl0 with ⟨_, z⟩ | ⟨z, _⟩
    · exact z
    · have k1 : scope.names.lookup ar.arg = some .local := S.par _ hps
      rcases z with z | z
      · have z' : scope.names.lookup ar.arg = some .cell := z
        rw [k1] at z'; cases z'
      · have z' : scope.names.lookup ar.arg = some .free := z
        rw [k1] at z'; cases z'
  obtain ⟨t1, ho⟩ := exo_at I.hok hea
  obtain ⟨nm, q, N', bs, bm, sn, sub, ab, col, dd, k0, k1, k2, k3, k5, hC, hbm⟩ := T.oex.cls
  have hcl : PySem.W.clsIn K C = some { name := nm, bases := bs, mro := .ref C :: bm, ns := N', qualname := q, hasDict := true, slotNames := sn, subclasses := sub, abstract := ab, collection := col, hasDel := false } := by unfold PySem.W.clsIn; rw [hC] <;> rfl
  obtain ⟨mb, hmb, hbb⟩ := I.mod.blt
  have J : PySem.W.InstAt h₁ a { cls := .ref C, dict := none, data := .fields #[.ref t1, .none, .none, .none, .bool false, .none] } C none := ⟨ho, rfl, rfl, trivial⟩
  have hne : a ≠ C := PySem.W.ks_ne kIn J hcl
  show PySem.wpAt (model P w) (A.deeper (PySem.W.ksEnv qual scope s.heap.objs.size f (.ref cda) cc)) (.func _ (PySem.W.ksEnv qual scope s.heap.objs.size f (.ref cda) cc)) (execs _ (PySem.W.ksEnv qual scope s.heap.objs.size f (.ref cda) cc)) _ _ _
  refine ks_wpAt_execs_cons (ks_wpAt_Expr_any (ks_wpAt_MethodCall (pl := pl s.heap.objs.size) (ks_wpAt_super_base (f := f) S.sup S.cls (by decide) rfl (kIn _ _ lk) rfl hp0 rfl (kIn _ _ hcode) rfl hvs hfile T.top ?_) (hc _)) (hint _) (hsw _))
  refine PySem.W.ks_loadName_global S.kind S.sup (PySem.Calls.loadGlobal_builtin (mg := mg) (mb := mb) (I.mod.glob.keeps I.bk) hsup (hmb.keeps I.bk) ((hbb _ (by decide +kernel)).trans (by first | boot_by_name | rfl | kernel_rfl)) ⟨rfl, ?_⟩)
  refine wpAny_loadName_free S.kind S.cls rfl ⟨_, kIn _ _ hcell, rfl⟩ ?_
  refine wpAny_loadName_local S.kind (S.par _ hps) hn hma ?_
  refine ks_wpAny_isType_cls (kIn _ _ hC) rfl ⟨rfl, ?_⟩
  refine ks_wpAny_call_super (kIn _ _ hC) rfl ho rfl (fun c z => by cases z) (PySem.W.looks_mroIn kIn T.self) (fun h2 e2 kk2 => ?_)
  have I2 : Inv (cxSup P w K mg base N qual scope f cda cc A outer s H) [] (L2.start N vs) H { s with heap := h2, toks := s.toks + (ps.zip us).length } := I.kept (t' := s.toks + (ps.zip us).length) kk2
  have hm2 := T.up
  unfold PySem.W.ks_superIn at hm2
  rw [hcl] at hm2
  have J2 : PySem.W.InstAt h2 a { cls := .ref C, dict := none, data := .fields #[.ref t1, .none, .none, .none, .bool false, .none] } C none := ⟨kk2 _ _ ho, rfl, rfl, trivial⟩
  refine PySem.W.kxs_getMethod PySem.W.kxs_ValueError e2 (PySem.W.looks_opaque I2.kIn T.opq) (l₀ := .ref C :: bm) (fun A Q E s k q => wpAny_bind ((PySem.W.looks_clsIn I2.kIn hcl) A _ E s k (wpAny_pure q))) rfl I2.kIn hm2
    (J2.type.andThen (PySem.W.looks_subIn I2.kIn T.sub)) hne (by decide) ?_
  have kk3 : ∀ b o, h2.get? b = some o → (h2.push (PySem.W.kxs_mw "ValueError.__init__" a)).get? b = some o := fun b o z => Heap.get?_push_of_some _ z
  have I3 : Inv (cxSup P w K mg base N qual scope f cda cc A outer s H) [] (L2.start N vs) H { s with heap := h2.push (PySem.W.kxs_mw "ValueError.__init__" a), toks := s.toks + (ps.zip us).length + 1 } := I2.kept (t' := s.toks + (ps.zip us).length + 1) kk3
  have I4 : Inv (cxSup P w K mg base N qual scope f cda cc A outer s H) [(h2.objs.size, PySem.W.kxs_mw "ValueError.__init__" a)] (L2.start N vs) H { s with heap := h2.push (PySem.W.kxs_mw "ValueError.__init__" a), toks := s.toks + (ps.zip us).length + 1 } :=
    ⟨I3.ok, I3.os, I3.bare, I3.base, I3.loc, I3.cell, I3.free, I3.freeC, fun p hp => by
      have hp' : p = (h2.objs.size, PySem.W.kxs_mw "ValueError.__init__" a) := List.mem_singleton.mp hp
      subst hp'
      exact ⟨Heap.get?_push_at rfl rfl, I2.hok.fresh (Nat.le_refl _), Nat.ne_of_gt I2.lt, I2.nofs (Nat.le_refl _), fun v z => by cases z⟩, I3.hok, I3.len⟩
  have hev := he s.heap.objs.size
  have hpv := hpl s.heap.objs.size
  show wpAny (model P w) _ (callWith p3 (.ref h2.objs.size) [] (backTo p3 (starEach (e :: es) (PySem.W.ksEnv qual scope s.heap.objs.size f (.ref cda) cc))) []) _ _ _
  have ru := hta.run p3 _ _ _ _ _ I4 hT
  have ru' : wpAny (model P w) (A.deeper (PySem.W.ksEnv qual scope s.heap.objs.size f (.ref cda) cc)) (spliced (backTo p3 (starEach (e :: es) (PySem.W.ksEnv qual scope s.heap.objs.size f (.ref cda) cc)))) _ (fun _ _ => False) _ := ru
  rw [hev] at ru' ⊢
  refine PySem.W.kxs_callWith (i := "ValueError.__init__") (x := a) (by show (false || (backTo p3 (starEach es _)).any (·.1)) = false; rw [hpv]; rfl) (PySem.Calls.evalArgs_plain ?_)
  refine wpAny_mono ru' (fun ws s5 h5 => ?_) fun _ _ z => z.elim
  obtain ⟨vs5, H5, I5, r5, hl5, he5, hT5⟩ := h5
  have hu5 := (I5.pin _ (List.mem_append_right _ List.mem_cons_self)).1
  refine ⟨hu5, ?_⟩
  refine bound_ok T.oex I5 he5 hu5 (by show ws.length ≤ sizeLine; rw [← Paired.length r5, sizeLine_eq]; omega) fun s6 I6 => ?_
  have go := ht.run _ _ _ _ _ I6 hT5
  refine wpAt_of_wpAny ?_
  refine wpAny_mono go (fun fl s7 h7 => ?_) fun _ _ z => z.elim
  match fl, h7 with
  | .ret u, ⟨v, σ2, H2, J7, rv, q7⟩ => exact ⟨v, H2, J7.os, J7.bare, J7.base, J7.hok, rv, q7⟩
  | .next, ⟨σ2, H2, J7, q7⟩ => exact ⟨V.non, H2, J7.os, J7.bare, J7.base, J7.hok, rfl, q7⟩
  | .brk, ⟨_, _, _, q7⟩ => exact q7.elim
  | .cont, ⟨_, _, _, q7⟩ => exact q7.elim
end
end Cr
/-! own errors over any built-in error: fields stored, the making, super().__init__(..) -/
namespace Cr
open PySem PySem.Spec PyProof.Rows L2
open Builtin Builtin.ObjectAttr

/-- a built-in error: its name, its __new__ and __init__, its chain -/
structure XB where
  B : String
  nw : String
  ini : String
  tl : List Value
structure XB.Ok (b : XB) : Prop where
  base : ExcBaseFacts b.B b.nw b.ini b.tl
  sup : PySem.W.KxsFacts b.B b.ini
  free : ∀ self : Value, refuseLoop self "__setattr__" b.tl = pure ()
  obj : b.tl.contains (.type "object") = true
abbrev xbV : XB := ⟨"ValueError", "ValueError.__new__", "ValueError.__init__", [.type "ValueError", .type "Exception", .type "BaseException", .type "object"]⟩
abbrev xbR : XB := ⟨"RuntimeError", "RuntimeError.__new__", "RuntimeError.__init__", [.type "RuntimeError", .type "Exception", .type "BaseException", .type "object"]⟩
abbrev xbL : XB := ⟨"LookupError", "LookupError.__new__", "LookupError.__init__", [.type "LookupError", .type "Exception", .type "BaseException", .type "object"]⟩
abbrev xbA : XB := ⟨"ArithmeticError", "ArithmeticError.__new__", "ArithmeticError.__init__", [.type "ArithmeticError", .type "Exception", .type "BaseException", .type "object"]⟩
theorem xbV_ok : xbV.Ok := ⟨F.excBase_ValueError, PySem.W.kxs_ValueError, F.store_ValueError.passes, by decide +kernel⟩
theorem xbR_ok : xbR.Ok := ⟨F.excBase_RuntimeError, PySem.W.kxs_RuntimeError, F.store_RuntimeError.passes, by decide +kernel⟩
theorem xbL_ok : xbL.Ok := ⟨F.excBase_LookupError, PySem.W.kxs_LookupError, F.store_LookupError.passes, by decide +kernel⟩
theorem xbA_ok : xbA.Ok := ⟨F.excBase_ArithmeticError, PySem.W.kxs_ArithmeticError, F.store_ArithmeticError.passes, by decide +kernel⟩

/-- own classes, then the chain -/
def downTo (tl : List Value) : List Value → Bool
  | .ref _ :: r => downTo tl r
  | l => l == tl
theorem down_or {tl l : List Value} (h : downTo tl l = true) : (∃ c r, l = .ref c :: r ∧ downTo tl r = true) ∨ l = tl := by
  unfold downTo at h
  split at h
  · exact .inl ⟨_, _, rfl, h⟩
  · exact .inr (beq_iff_eq.mp h)
theorem down_free {tl : List Value} (self : Value) (ht : refuseLoop self "__setattr__" tl = pure ()) : ∀ l : List Value, downTo tl l = true → refuseLoop self "__setattr__" l = pure ()
  | [], h => by
    rcases down_or h with ⟨_, _, z, _⟩ | rfl
    · cases z
    · exact ht
  | v :: r, h => by
    rcases down_or h with ⟨c, r', z, k⟩ | z
    · cases z
      rw [refuseLoop_ref]
      exact down_free self ht r k
    · rw [z]
      exact ht
theorem down_has {tl : List Value} (Y : String) : ∀ l : List Value, downTo tl l = true → l.contains (.type Y) = tl.contains (.type Y)
  | [], h => by
    rcases down_or h with ⟨_, _, z, _⟩ | rfl
    · cases z
    · rfl
  | v :: r, h => by
    rcases down_or h with ⟨c, r', z, k⟩ | z
    · cases z
      rw [List.contains_cons, down_has Y r k]
      rfl
    · rw [z]

/-- what the written part says of an own error's class -/
structure OexG (K : PySem.W.Frag) (C : Addr) (b : XB) : Prop where
  ok : b.Ok
  cls : ∃ nm q N bs bm sn sub ab col dd k0 k1 k2 k3 k5, K.lookup C = some (excClassObj nm q C N bs bm true sn sub ab col dd k0 k1 k2 k3 k5 b.nw) ∧ downTo b.tl bm = true
  sa : PySem.W.findIn K (.ref C) "__setattr__" = some (some (.builtin "object.__setattr__"))
  exC : PySem.W.subIn K (.ref C) (.type "BaseException") = some true
  tyC : PySem.W.typeIn K (.ref C) = some (.type "type")
  kC : PySem.W.keepIn K (.ref C) = true

section
variable {prog : Program} {w : World} {A : Around} {R : Result → Shared → Prop} {hp : Heap} {g : Array GenState} {d : Drawn} {t : Nat} {os : OsState}
/-- the way of object.__setattr__ up to the own dict -/
theorem osaG {K : PySem.W.Frag} {name : Str} {tk : Tok} {v : Value} {x C : Addr} {ox : Obj} {od : Option Obj} {cd : ClassData} {b : XB} (hb : b.Ok) (X : K.In hp) (I : PySem.W.InstAt hp x ox C od) (hcd : PySem.W.clsIn K C = some cd) (hm : downTo b.tl cd.mro = true) (ha : PySem.W.findIn K (.ref C) name = some none)
    (go : ∀ Q : Fin → Shared → Prop, (∀ s', R (.ok (.ret .none)) s' → Q (.done (.ret .none)) s') → wpAny (model prog w) A.in1 (storeInOwnDict (.ref x) (.ref C) (.str name tk) name v false) Q (fun e s' => R (.error e) s') ⟨hp, g, d, t, os⟩) :
    codeAny (model prog w) A (.call (.builtin "object.__setattr__") ⟨[.ref x, .str name tk, v], []⟩) R ⟨hp, g, d, t, os⟩ := by
  have SF := F.store_object
  have has : cd.mro.contains (.type "object") = true := (down_has "object" _ hm).trans hb.obj
  have full : cd.mro.isEmpty = false := by
    cases e : cd.mro with
    | nil => rw [e] at has; exact absurd has (by decide)
    | cons _ _ => rfl
  have isO : PySem.W.Looks (model prog w) hp (isInstance (.ref x) (.type "object")) true := I.type.andThen (PySem.W.looks_mroIn X (by unfold PySem.W.mroIn; rw [hcd, Option.bind_some, if_neg (by rw [full]; decide), has]))
  refine codeAny_call_builtin SF.slot.plain SF.entry (@PySem.W.check_slot (model prog w) _ _ ⟨hp, g, d, t, os⟩ "object.__setattr__" "object" "__setattr__" (.ref x) [.str name tk, v] [] _ SF.kind SF.split isO (SF.args (.ref x) (.str name tk) v) ?_)
  have line : PySem.W.Looks (model prog w) hp (mroOf (.ref C)) cd.mro := (PySem.W.looks_clsIn X hcd).andThen .now
  have none_ : PySem.W.Looks (model prog w) hp (storeTaker? none) none := .now
  rw [PySem.W.osa_eq, refuse_eq]
  refine wpAny_bind (wpAny_bind (I.type.at (wpAny_bind (line.at ?_))))
  rw [down_free _ (hb.free _) _ hm]
  refine wpAny_pure (wpAny_bind (I.type.at (wpAny_bind ((PySem.W.looks_findIn X ha).at (wpAny_bind (none_.at ?_))))))
  exact go _ fun s' h => h
end
end Cr
namespace Cr
open PySem PySem.Spec PyProof.Rows L2
open Builtin Builtin.ObjectAttr
section
variable {prog : Program} {w : World} {A : Around} {R : Result → Shared → Prop} {hp : Heap} {g : Array GenState} {d : Drawn} {t : Nat} {os : OsState}
/-- the first field: the dict is made -/
theorem osaG_new {K : PySem.W.Frag} {name : Str} {tk : Tok} {v : Value} {x C : Addr} {fv : Array Value} {cd : ClassData} {b : XB} (hb : b.Ok) (X : K.In hp) (hx : hp.get? x = some { cls := .ref C, data := .fields fv }) (hcd : PySem.W.clsIn K C = some cd) (hm : downTo b.tl cd.mro = true) (hh : cd.hasDict = true)
    (ha : PySem.W.findIn K (.ref C) name = some none)
    (hq : ∀ h' tk' dx, (∀ c o, c ≠ x → hp.get? c = some o → h'.get? c = some o) → hp.objs.size ≤ dx → dx ≠ x → h'.get? x = some { cls := .ref C, dict := some dx, data := .fields fv } →
      h'.Ns1 dx (fun y => if y = name then some v else none) → R (.ok (.ret .none)) ⟨h', g, d, tk', os⟩) :
    codeAny (model prog w) A (.call (.builtin "object.__setattr__") ⟨[.ref x, .str name tk, v], []⟩) R ⟨hp, g, d, t, os⟩ := by
  refine osaG hb X (ox := { cls := .ref C, data := .fields fv }) (od := none) ⟨hx, rfl, rfl, trivial⟩ hcd hm ha fun Q hQ => ?_
  have far : x ≠ hp.objs.size := Nat.ne_of_lt (Heap.lt_size hx)
  have hc : PySem.W.Looks (model prog w) hp (classData C) cd := PySem.W.looks_clsIn X hcd
  obtain ⟨nm, bs, mro, ns, qn, hd, sn, sb, ab, col, dl⟩ := cd
  cases hh
  unfold storeInOwnDict ownDictForStores
  repeat (first | with_reducible refine PySem.HandSPX.store_in_new ?_ ?_ | with_reducible refine wpAny_loadPart_at hx ?_ | with_reducible refine hc.at ?_ | wp_step)
  · exact ⟨_, #[], _, (Heap.get?_update_ne _ _ _ _ far.symm).trans (Heap.get?_push_at rfl rfl), rfl, (fun e he => by simp at he), fun _ => rfl⟩
  · intro h' tk' hn hs
    refine hQ _ (hq h' tk' hp.objs.size (fun c o hc ho => ?_) (Nat.le_refl _) far.symm ?_ hn)
    · rw [hs.2 c (Nat.ne_of_lt (Heap.lt_size ho)), Heap.get?_update_ne _ _ _ _ hc]
      exact Heap.get?_push_of_some _ ho
    · rw [hs.2 x far]
      exact Heap.get?_update_self _ (Heap.get?_push_of_some _ hx) rfl
/-- a further field -/
theorem osaG_old {K : PySem.W.Frag} {name : Str} {tk : Tok} {v : Value} {x C dx : Addr} {fv : Array Value} {cd : ClassData} {m0 : Str → Option Value} {nl : List Str} {b : XB} (hb : b.Ok) (X : K.In hp) (hx : hp.get? x = some { cls := .ref C, dict := some dx, data := .fields fv }) (hns : hp.Ns1 dx m0) (hw : Within m0 nl) (hz : nl.length ≤ 1000)
    (hcd : PySem.W.clsIn K C = some cd) (hm : downTo b.tl cd.mro = true) (hh : cd.hasDict = true) (ha : PySem.W.findIn K (.ref C) name = some none)
    (hq : ∀ h' tk', (∀ c o, c ≠ dx → hp.get? c = some o → h'.get? c = some o) → h'.Ns1 dx (fun y => if y = name then some v else m0 y) → R (.ok (.ret .none)) ⟨h', g, d, tk', os⟩) :
    codeAny (model prog w) A (.call (.builtin "object.__setattr__") ⟨[.ref x, .str name tk, v], []⟩) R ⟨hp, g, d, t, os⟩ := by
  obtain ⟨oD, _, _, hoD, _, _⟩ := hns.count hw
  refine osaG hb X (ox := { cls := .ref C, dict := some dx, data := .fields fv }) (od := some oD) ⟨hx, rfl, rfl, hoD⟩ hcd hm ha fun Q hQ => ?_
  have hc : PySem.W.Looks (model prog w) hp (classData C) cd := PySem.W.looks_clsIn X hcd
  obtain ⟨nm, bs, mro, ns, qn, hd, sn, sb, ab, col, dl⟩ := cd
  cases hh
  unfold storeInOwnDict ownDictForStores
  repeat (first | with_reducible refine PySem.OEX.store_in_old hns hw hz ?_ | with_reducible refine wpAny_loadPart_at hx ?_ | with_reducible refine hc.at ?_ | wp_step)
  intro h' tk' hn hs
  exact hQ _ (hq h' tk' (fun c o hc ho => (hs.2 c hc).trans ho) hn)
end

section
variable {X : Cx} {pins : List (Addr × Obj)} {σ : L2.St} {H : Hp} {s : Shared} {a C dx : Addr} {b : XB} {f : Str} {y : V} {u : Value} {fs : List (Str × V)} {Q : Unit → Shared → Prop} {E : Value → Shared → Prop} {A : Around}
theorem ostG_new (T : OexG X.K C b) (I : Inv X pins σ H s) (e : H a = some (exo a C none)) (hno : PySem.W.findIn X.K (.ref C) f = some none) (ry : RelV y u)
    (h : ∀ dx s', H dx = none → dx ≠ a → Inv X pins σ (upd (upd H dx (exd dx [(f, y)])) a (exo a C (some dx))) s' → Q () s') : wpAny (model X.prog X.w) A (setAttr (.ref a) f u) Q E s := by
  obtain ⟨nm, q, N, bs, bm, sn, sub, ab, col, dd, k0, k1, k2, k3, k5, hC, hbm⟩ := T.cls
  have hcl : PySem.W.clsIn X.K C = some { name := nm, bases := bs, mro := .ref C :: bm, ns := N, qualname := q, hasDict := true, slotNames := sn, subclasses := sub, abstract := ab, collection := col, hasDel := false } := by unfold PySem.W.clsIn; rw [hC] <;> rfl
  obtain ⟨t1, ho⟩ := exo_at I.hok e
  obtain ⟨hp, g, d, t, os⟩ := s
  refine PySem.W.set_plain I.kIn (ox := { cls := .ref C, dict := none, data := .fields #[.ref t1, .none, .none, .none, .bool false, .none] }) (od := none) ⟨ho, rfl, rfl, trivial⟩ T.sa ?_
  refine osaG_new T.ok I.kIn ho hcl (show downTo b.tl (.ref C :: bm) = true from hbm) rfl hno (fun h' tk' dx k dn dne hx hn => ?_)
  have new : H dx = none := I.hok.fresh dn
  have old : ∀ {c : Addr} {o : Obj}, hp.get? c = some o → c ≠ dx := fun q => Nat.ne_of_lt (Nat.lt_of_lt_of_le (Heap.lt_size q) dn)
  have notA : ∀ {c : Addr}, H c = none → c ≠ a := fun n z => by rw [z, e] at n; cases n
  have atA : ∀ {c : Addr} {o : HO}, H c = some o → exo a C none ≠ o → upd (upd H dx (exd dx [(f, y)])) a (exo a C (some dx)) c = some o := fun q n => by
    rw [upd_ne (at_ne e q n), upd_ne (ne_of_none q new)]
    exact q
  have stays : Un X.fs [] H (upd (upd H dx (exd dx [(f, y)])) a (exo a C (some dx))) hp h' := {
    keep := fun c o q n _ _ => k c o (notA n) q
    slot := fun c o q n _ _ => ⟨o.slots, k c o (notA n) q⟩
    free := fun c o q n _ => by rw [upd_ne (notA n), upd_ne (old q)]; exact n
    there := fun c o q _ => by
      by_cases hc : c = a
      · subst hc
        exact ⟨_, hx⟩
      · exact ⟨o, k c o hc q⟩
    tups := fun c xs q => atA q exo_tup
    frzs := fun c o v q => atA q exo_frz
    tbls := fun c ps q => ⟨#[], by rw [atA q exo_tbl]; simp⟩ }
  refine h dx _ new dne (I.un (t' := tk') stays fun c o q => ?_)
  by_cases ca : c = a
  · subst ca
    rw [upd_same] at q
    cases q
    exact exo_ok hx
  rw [upd_ne ca] at q
  by_cases cd : c = dx
  · subst cd
    rw [upd_same] at q
    cases q
    exact exd_ok hn (relO_put (fs := []) ry fun _ => True.intro)
  rw [upd_ne cd] at q
  refine (I.hok c o q).stay (fun c' v hc z => k c' v ?_ z) (fun c' hc => atA hc exo_own) (fun c' xs hc => atA hc exo_tup)
  rcases hc with hc | hc
  · rw [hc]; exact ca
  · exact at_ne e hc exo_own
theorem ostG_old (T : OexG X.K C b) (I : Inv X pins σ H s) (e : H a = some (exo a C (some dx))) (ed : H dx = some (exd dx fs)) (hl : fs.length ≤ 900) (hno : PySem.W.findIn X.K (.ref C) f = some none) (ry : RelV y u)
    (h : ∀ s', Inv X pins σ (upd H dx (exd dx ((f, y) :: fs))) s' → Q () s') : wpAny (model X.prog X.w) A (setAttr (.ref a) f u) Q E s := by
  obtain ⟨nm, q, N, bs, bm, sn, sub, ab, col, dd, k0, k1, k2, k3, k5, hC, hbm⟩ := T.cls
  have hcl : PySem.W.clsIn X.K C = some { name := nm, bases := bs, mro := .ref C :: bm, ns := N, qualname := q, hasDict := true, slotNames := sn, subclasses := sub, abstract := ab, collection := col, hasDel := false } := by unfold PySem.W.clsIn; rw [hC] <;> rfl
  obtain ⟨t1, ho⟩ := exo_at I.hok e
  obtain ⟨mA, hns, rel⟩ := exd_at I.hok ed
  obtain ⟨hp, g, d, t, os⟩ := s
  obtain ⟨oD, _, _, hoD, _, _⟩ := hns.count (within_of rel)
  refine PySem.W.set_plain I.kIn (ox := { cls := .ref C, dict := some dx, data := .fields #[.ref t1, .none, .none, .none, .bool false, .none] }) (od := some oD) ⟨ho, rfl, rfl, hoD⟩ T.sa ?_
  refine osaG_old T.ok I.kIn ho hns (within_of rel) (by rw [List.length_map]; omega) hcl (show downTo b.tl (.ref C :: bm) = true from hbm) rfl hno (fun h' tk' k hn => h _ ?_)
  have there : ∃ o, h'.get? dx = some o := by
    obtain ⟨o, _, _, z, _⟩ := hn
    exact ⟨o, z⟩
  exact I.write (t' := tk') (x := dx) (e := dx) (o := exd dx ((f, y) :: fs)) (by rw [ed]; exact True.intro) (.inl rfl) k there (exd_ok hn (relO_put ry rel))
end

/-- self.f = e in an own error's __init__ -/
def tOstG (K : PySem.W.Frag) (f : Str) (to te : TE) : TS := fun D σ H => te σ H fun y H1 => to σ H1 fun x H2 => ∃ (a C : Addr) (b : XB), x = .ref a ∧ OexG K C b ∧ PySem.W.findIn K (.ref C) f = some none ∧
  ((H2 a = some (exo a C none) ∧ ∀ dx, H2 dx = none → dx ≠ a → D.nx σ (upd (upd H2 dx (exd dx [(f, y)])) a (exo a C (some dx)))) ∨
    ∃ (dx : Addr) (fs : List (Str × V)), H2 a = some (exo a C (some dx)) ∧ H2 dx = some (exd dx fs) ∧ fs.length ≤ 900 ∧ D.nx σ (upd H2 dx (exd dx ((f, y) :: fs))))
section
variable {X : Cx} {o e : Expr} {es : List Expr} {to te : TE} {ta : TA} {f : Str} {p p' pos : Pos}
theorem ps_ostG (ho : PE X o to) (he : PE X e te) (hs : swapsWith e (some (.Attribute o f p')) pos.line X.env = pure false := by rfl) : PS X (.Assign [.Attribute o f p'] e pos) (tOstG X.K f to te) := by
  constructor
  intro pins s σ H D I h
  refine plainObj_wpAny_Assign_Attribute (thn (he.run pins s σ H _ I h) ?_) hs
  rintro v s1 ⟨y, H1, I1, r1, q1⟩
  refine thn (ho.run pins s1 σ H1 _ I1 q1) ?_
  rintro u s2 ⟨x, H2, I2, r2, a, C, b, rfl, T, hno, q⟩
  obtain rfl : u = Value.ref a := r2
  rcases q with ⟨ea, q⟩ | ⟨dx, fs, ea, ed, hl, q⟩
  · exact ostG_new T I2 ea hno r1 fun dx s' n ne J => ⟨σ, _, J, q dx n ne⟩
  · exact ostG_old T I2 ea ed hl hno r1 fun s' J => ⟨σ, _, J, q⟩
/-- C(e, ..) by its own __init__, to be raised -/
theorem pmkG {CX : CXT} {x : Str} {C fI : Addr} {b : XB} {k : Nat} {fd : FuncData} {ps : List Str} {sp : Sp} {ds : List Value} {dvs : List V} (T : OexG X.K C b) (iC : PySem.W.findIn X.K (.ref C) "__init__" = some (some (.ref fI))) (tI : PySem.W.typeIn X.K (.ref fI) = some (.type "function"))
    (F1 : FnOk X.prog X.w X.K X.mg X.base CX k fI fd ps sp) (hr : Room (k + 1) X.A) (hb : Binds X.K fd ps ds) (hd : Vals dvs ds) (hx : Passes CX X (fun _ _ _ => False)) (hg : Gl X x) (hm : X.mg x = some (.ref C)) (ha : PA X (e :: es) ta)
    (hdb : (x == ("__debug__" : Str)) = false := by decide) (he : starEach (e :: es) X.env = (false, eval e X.env) :: starEach es X.env := by rfl) (hpl : (backTo pos (starEach es X.env)).any (·.1) = false := by rfl) :
    PMk X (.Call (.Name x p) (e :: es) [] pos) (tMkO C sp dvs ta) := by
  intro pins s σ H Q I h
  obtain ⟨nm, q, N, bs, bm, sn, sub, ab, col, dd, k0, k1, k2, k3, k5, hC, hbm⟩ := T.cls
  refine wpAny_Call_Name_kw (ld_glob I hg hm ?_ hdb)
  refine PySem.W.callWith_K (h₀ := X.base) I.ok.mod.kin T.kC (thn (ha.run pos pins s σ H _ I h) ?_) he hpl
  rintro us ⟨hp, g, dr, tk, os⟩ ⟨vs, H1, I1, r1, hz, q1⟩
  refine ⟨I1.kIn, ?_⟩
  show wpAny _ _ (call (.ref C) us) _ _ _
  have up : hp.objs.size ≤ hp.objs.size + 1 := Nat.le_succ _
  have go := q1 (hp.objs.size + 1) (I1.hok.fresh up)
  generalize eH : (hp.push (PySem.W.kdv_tup us)).push (PySem.HandSPX.excO C hp.objs.size) = hh
  have kk : ∀ c o, hp.get? c = some o → hh.get? c = some o := fun c o z => by rw [← eH]; exact Heap.get?_push_of_some _ (Heap.get?_push_of_some _ z)
  have here : hh.get? (hp.objs.size + 1) = some (PySem.HandSPX.excO C hp.objs.size) := by rw [← eH]; heap_get
  have I2 : Inv X pins σ (upd H1 (hp.objs.size + 1) (exo (hp.objs.size + 1) C none)) ⟨hh, g, dr, tk, os⟩ := I1.laid (t' := tk) kk up (exo_ok here)
  have rel : Vals (V.ref (hp.objs.size + 1) :: (vs ++ dvs)) (Value.ref (hp.objs.size + 1) :: (us ++ ds)) := .cons rfl (r1.append hd)
  have size : (Value.ref (hp.objs.size + 1) :: us ++ ds).length = ps.length := rel.length.symm.trans (F1.len _ _ _ _ go)
  have few : us.length ≤ sizeLine := by
    rw [← Paired.length r1, sizeLine_eq]
    omega
  refine wpAny_call (PySem.HandSPX.call_own T.ok.base (fun Y => down_has Y bm hbm) (I1.kIn _ _ hC) (PySem.W.looks_findIn I1.kIn iC) (fun self => PySem.W.bind_fn I1.kIn self tI) few ?_)
  rw [eH]
  refine codeAny_mono (F1.run _ X.stack _ _ ⟨Value.ref (hp.objs.size + 1) :: us, []⟩ (Value.ref (hp.objs.size + 1) :: (us ++ ds)) _ _ (fun _ _ _ => False) (hr.make C us []) (I2.env0.make C us []) (hb _ (Value.ref (hp.objs.size + 1) :: us) I2.kIn size) rel go) ?_
  intro r s' z
  match r, z with
  | .error er, z => exact hx pins σ _ _ er s' I2 z
  | .ok .next, z => exact False.elim z
  | .ok .brk, z => exact False.elim z
  | .ok .cont, z => exact False.elim z
  | .ok (.ret u), ⟨v, H2, os2, bare2, un2, hok2, rv, ev, d, fs, ea, ed, hd1, q2⟩ =>
    subst ev
    obtain ⟨h2, g2, d2, t2, os'⟩ := s'
    exact ⟨rv, mk_end (raises_own T.exC T.tyC) I1 up kk un2 hok2 os2 bare2 ea ed hd1 q2⟩
end

/-! ### super().__init__(..) first -/
structure SupG (P : Program) (K : PySem.W.Frag) (C cda cc : Addr) (b : XB) : Prop where
  oex : OexG K C b
  code : ∃ ccl cdd cvs ccs file tf, K.lookup cda = some ⟨ccl, cdd, .fields cvs, ccs⟩ ∧ cvs[2]? = some (.str file tf) ∧ ((P.main.file : Str) == file) = true
  cell : ∃ cl cld csl, K.lookup cc = some ⟨cl, cld, .cell (some (.ref C)), csl⟩
  self : PySem.W.mroIn K C (.ref C) = some true
  opq : PySem.W.nsIn K cStatics "thirdparty.any" = some none
  up : PySem.W.ks_superIn K C C "__init__" = some (some (.builtin b.ini))
  sub : PySem.W.subIn K (.ref C) (.type b.B) = some true
  top : (P.main.scope.names.lookup ("super" : Str)).isSome = false
section
variable {P : Program} {w : World} {K : PySem.W.Frag} {mg : Str → Option Value} {base : Heap}
/-- the bound __init__ of the base, called -/
theorem boundG {X : Cx} {pins : List (Addr × Obj)} {σ : L2.St} {H : Hp} {s : Shared} {a C u : Addr} {b : XB} {A : Around} {E : Value → Shared → Prop} {us : List Value} {Q : Value → Shared → Prop} (T : OexG X.K C b) (I : Inv X pins σ H s) (e : H a = some (exo a C none))
    (hu : s.heap.get? u = some (PySem.W.kxs_mw b.ini a)) (hl : us.length ≤ sizeLine) (h : ∀ s', Inv X pins σ H s' → Q .none s') : wpAny (model X.prog X.w) A (call (.ref u) us) Q E s := by
  obtain ⟨nm, q, N, bs, bm, sn, sub, ab, col, dd, k0, k1, k2, k3, k5, hC, hbm⟩ := T.cls
  obtain ⟨t1, ho⟩ := exo_at I.hok e
  have hC' := I.kIn _ _ hC
  obtain ⟨hp, g, d, t, os⟩ := s
  refine wpAny_call (codeAny_of_tree ?_)
  show wpAny _ A.in1 (callAny (.ref u) ⟨us, []⟩) _ _ _
  simp only [callAny]
  refine wpAny_bind (wpAny_load hu ?_)
  simp only [PySem.W.kxs_mw, show (Value.type "method-wrapper" == Value.type "method" || Value.type "method-wrapper" == Value.type "builtin_function_or_method" || Value.type "method-wrapper" == Value.type "method-wrapper") = true by decide, if_true]
  refine PySem.W.KFB.if_so (by decide) ?_
  refine wpAny_bind (PySem.W.check_bound_init T.ok.base.toExcCallFacts hC' ho rfl ?_)
  refine wpAny_bind (wpAny_pure (wpAny_pure ?_))
  refine ⟨plainId_quiet T.ok.base.init.plain _, codeAny_builtin T.ok.base.initEntry ?_⟩
  refine PySem.W.exc_init_tree (cls := .ref C) (t0 := t1) (dv := none) (c2 := .none) (c3 := .none) (b4 := .bool false) ho hl fun h' k hx _ => ?_
  have J := I.write (t' := t) (x := a) (e := a) (o := exo a C none) (by rw [e]; exact True.intro) (.inl rfl) k ⟨_, hx⟩ (exo_ok hx)
  have eu : upd H a (exo a C none) = H := by
    funext b
    by_cases hb : b = a
    · rw [hb, upd_same, e]
    · rw [upd_ne hb]
  rw [eu] at J
  exact h _ J

/-- THE RULE: def __init__(self, ..): super().__init__(e, ..); rest -/
theorem okSupG {name qual : Str} {params : Arguments} {scope : Scope} {dV kV doc pm ct oc : Value} {an od : Option Addr} {osl : Array (Option Value)} {f C cda cc : Addr} {b : XB} {N ps : List Str} {k : Nat} {sp : Sp}
    {p0 p1 p2 p3 p4 : Pos} {e : Expr} {es : List Expr} {rest : List Stmt} {ar : Arg}
    (lk : K.lookup f = some ⟨oc, od, .func (PySem.W.ksFn name qual params (.Expr (.Call (.Attribute (.Call (.Name "super" p0) [] [] p1) "__init__" p2) (e :: es) [] p3) p4 :: rest) scope dV kV doc pm an (.ref cda) ct cc), osl⟩)
    (hcd : PySem.W.codeIn K (.ref cda) qual = true) (S : SupScope N ps scope) (T : SupG P K C cda cc b) (hsup : mg "super" = none)
    (hp0 : (params.posonlyargs ++ params.args).head? = some ar) (hself : N[0]? = some ar.arg) (hps : ar.arg ∈ ps)
    (len : ∀ vs H Q E, sp vs H Q E → vs.length = ps.length)
    (hbody : ∀ (A : Around) (outer : List Env) (s : Shared) (H : Hp) (vs : List V) (Q : VK) (E : XK), sp vs H Q E →
      ∃ (a : Addr) (ta : TA) (t : TS), (L2.start N vs)[0]? = some (some (.ref a)) ∧ H a = some (exo a C none) ∧ PA (cxSup P w K mg base N qual scope f cda cc A outer s H) (e :: es) ta ∧
        PSs (cxSup P w K mg base N qual scope f cda cc A outer s H) rest t ∧
        ta (L2.start N vs) H fun ws H1 => ws.length ≤ 1000 ∧ H1 a = some (exo a C none) ∧ t { nx := fun _ H' => Q .non H', rt := Q } (L2.start N vs) H1)
    {pl : Addr → Sem Bool}
    (hc : ∀ L : Addr, eval (.Call (.Attribute (.Call (.Name "super" p0) [] [] p1) "__init__" p2) (e :: es) [] p3) (PySem.W.ksEnv qual scope L f (.ref cda) cc) = (do
      let ov ← attributeBase (.Call (.Name "super" p0) [] [] p1) "__init__" (PySem.W.ksEnv qual scope L f (.ref cda) cc) (eval (.Call (.Name "super" p0) [] [] p1) (PySem.W.ksEnv qual scope L f (.ref cda) cc))
      standAt p2.atName
      let (fx, first) ← holding [ov] (getMethod ov "__init__" (pl L))
      callWith p3 fx first (backTo p3 (starEach (e :: es) (PySem.W.ksEnv qual scope L f (.ref cda) cc))) []) := by intro _; rfl)
    (hint : ∀ L : Addr, interactive (PySem.W.ksEnv qual scope L f (.ref cda) cc) = false := by intro _; rfl)
    (hsw : ∀ L : Addr, swapsWith (.Call (.Attribute (.Call (.Name "super" p0) [] [] p1) "__init__" p2) (e :: es) [] p3) none p4.line (PySem.W.ksEnv qual scope L f (.ref cda) cc) = pure false := by intro _; rfl)
    (he : ∀ L : Addr, starEach (e :: es) (PySem.W.ksEnv qual scope L f (.ref cda) cc) = (false, eval e (PySem.W.ksEnv qual scope L f (.ref cda) cc)) :: starEach es (PySem.W.ksEnv qual scope L f (.ref cda) cc) := by intro _; rfl)
    (hpl : ∀ L : Addr, (backTo p3 (starEach es (PySem.W.ksEnv qual scope L f (.ref cda) cc))).any (·.1) = false := by intro _; rfl) :
    FnOk P w K mg base CX0 (k + 1) f (PySem.W.ksFn name qual params (.Expr (.Call (.Attribute (.Call (.Name "super" p0) [] [] p1) "__init__" p2) (e :: es) [] p3) p4 :: rest) scope dV kV doc pm an (.ref cda) ct cc) ps sp := by
  refine ⟨len, fun A outer s H args us vs Q E hr e0 hb r hsp => ?_⟩
  have keepB : ∀ b o, base.get? b = some o → s.heap.get? b = some o := fun b o e => (e0.bs b o e).1
  obtain ⟨cl, cld, csl, hcell⟩ := T.cell
  obtain ⟨ccl, cdd, cvs, ccs, file, tf, hcode, hvs, hfile⟩ := T.code
  refine ks_codeAny_call_defAt (fd := PySem.W.ksFn name qual params _ scope dV kV doc pm an (.ref cda) ct cc) (binds := ps.zip us) hr.depth ((e0.mod.kin.keeps keepB) _ _ lk) rfl (e0.mod.nolimit.keeps keepB) (PySem.W.codeRec_of (e0.mod.kin.keeps keepB) hcd) rfl hb S.nocell
    (fun x hx => S.par x.1 (List.of_mem_zip (show (x.1, x.2) ∈ ps.zip us from hx)).1) (fun h₁ hns hk => ?_) S.co S.gen S.kind
  obtain ⟨a, ta, t, hs0, hea, hta, ht, hT⟩ := hbody A outer s H vs Q E hsp
  have I : Inv (cxSup P w K mg base N qual scope f cda cc A outer s H) [] (L2.start N vs) H { s with heap := h₁, toks := s.toks + (ps.zip us).length } := inv_sup S hr.hd e0 (len _ _ _ _ hsp) r hcell hns hk
  have kIn := I.kIn
  obtain ⟨m, hn, hlk⟩ := I.loc
  obtain ⟨u0, hu0, hl0⟩ := hlk 0 ar.arg (.ref a) hself hs0 (.inl (S.par _ hps))
  obtain rfl : u0 = Value.ref a := hu0
  have hma : m ar.arg = some (.ref a) := by
    rcases hl0 with ⟨_, z⟩ | ⟨z, _⟩
    · exact z
    · have k1 : scope.names.lookup ar.arg = some .local := S.par _ hps
      rcases z with z | z
      · have z' : scope.names.lookup ar.arg = some .cell := z
        rw [k1] at z'; cases z'
      · have z' : scope.names.lookup ar.arg = some .free := z
        rw [k1] at z'; cases z'
  obtain ⟨t1, ho⟩ := exo_at I.hok hea
  obtain ⟨nm, q, N', bs, bm, sn, sub, ab, col, dd, k0, k1, k2, k3, k5, hC, hbm⟩ := T.oex.cls
  have hcl : PySem.W.clsIn K C = some { name := nm, bases := bs, mro := .ref C :: bm, ns := N', qualname := q, hasDict := true, slotNames := sn, subclasses := sub, abstract := ab, collection := col, hasDel := false } := by unfold PySem.W.clsIn; rw [hC] <;> rfl
  obtain ⟨mb, hmb, hbb⟩ := I.mod.blt
  have J : PySem.W.InstAt h₁ a { cls := .ref C, dict := none, data := .fields #[.ref t1, .none, .none, .none, .bool false, .none] } C none := ⟨ho, rfl, rfl, trivial⟩
  have hne : a ≠ C := PySem.W.ks_ne kIn J hcl
  show PySem.wpAt (model P w) (A.deeper (PySem.W.ksEnv qual scope s.heap.objs.size f (.ref cda) cc)) (.func _ (PySem.W.ksEnv qual scope s.heap.objs.size f (.ref cda) cc)) (execs _ (PySem.W.ksEnv qual scope s.heap.objs.size f (.ref cda) cc)) _ _ _
  refine ks_wpAt_execs_cons (ks_wpAt_Expr_any (ks_wpAt_MethodCall (pl := pl s.heap.objs.size) (ks_wpAt_super_base (f := f) S.sup S.cls (by decide) rfl (kIn _ _ lk) rfl hp0 rfl (kIn _ _ hcode) rfl hvs hfile T.top ?_) (hc _)) (hint _) (hsw _))
  refine PySem.W.ks_loadName_global S.kind S.sup (PySem.Calls.loadGlobal_builtin (mg := mg) (mb := mb) (I.mod.glob.keeps I.bk) hsup (hmb.keeps I.bk) ((hbb _ (by decide +kernel)).trans (by first | boot_by_name | rfl | kernel_rfl)) ⟨rfl, ?_⟩)
  refine wpAny_loadName_free S.kind S.cls rfl ⟨_, kIn _ _ hcell, rfl⟩ ?_
  refine wpAny_loadName_local S.kind (S.par _ hps) hn hma ?_
  refine ks_wpAny_isType_cls (kIn _ _ hC) rfl ⟨rfl, ?_⟩
  refine ks_wpAny_call_super (kIn _ _ hC) rfl ho rfl (fun c z => by cases z) (PySem.W.looks_mroIn kIn T.self) (fun h2 e2 kk2 => ?_)
  have I2 : Inv (cxSup P w K mg base N qual scope f cda cc A outer s H) [] (L2.start N vs) H { s with heap := h2, toks := s.toks + (ps.zip us).length } := I.kept (t' := s.toks + (ps.zip us).length) kk2
  have hm2 := T.up
  unfold PySem.W.ks_superIn at hm2
  rw [hcl] at hm2
  have J2 : PySem.W.InstAt h2 a { cls := .ref C, dict := none, data := .fields #[.ref t1, .none, .none, .none, .bool false, .none] } C none := ⟨kk2 _ _ ho, rfl, rfl, trivial⟩
  refine PySem.W.kxs_getMethod T.oex.ok.sup e2 (PySem.W.looks_opaque I2.kIn T.opq) (l₀ := .ref C :: bm) (fun A Q E s k q => wpAny_bind ((PySem.W.looks_clsIn I2.kIn hcl) A _ E s k (wpAny_pure q))) rfl I2.kIn hm2
    (J2.type.andThen (PySem.W.looks_subIn I2.kIn T.sub)) hne (by decide) ?_
  have kk3 : ∀ b' o, h2.get? b' = some o → (h2.push (PySem.W.kxs_mw b.ini a)).get? b' = some o := fun b' o z => Heap.get?_push_of_some _ z
  have I3 : Inv (cxSup P w K mg base N qual scope f cda cc A outer s H) [] (L2.start N vs) H { s with heap := h2.push (PySem.W.kxs_mw b.ini a), toks := s.toks + (ps.zip us).length + 1 } := I2.kept (t' := s.toks + (ps.zip us).length + 1) kk3
  have I4 : Inv (cxSup P w K mg base N qual scope f cda cc A outer s H) [(h2.objs.size, PySem.W.kxs_mw b.ini a)] (L2.start N vs) H { s with heap := h2.push (PySem.W.kxs_mw b.ini a), toks := s.toks + (ps.zip us).length + 1 } :=
    ⟨I3.ok, I3.os, I3.bare, I3.base, I3.loc, I3.cell, I3.free, I3.freeC, fun p hp => by
      have hp' : p = (h2.objs.size, PySem.W.kxs_mw b.ini a) := List.mem_singleton.mp hp
      subst hp'
      exact ⟨Heap.get?_push_at rfl rfl, I2.hok.fresh (Nat.le_refl _), Nat.ne_of_gt I2.lt, I2.nofs (Nat.le_refl _), fun v z => by cases z⟩, I3.hok, I3.len⟩
  have hev := he s.heap.objs.size
  have hpv := hpl s.heap.objs.size
  show wpAny (model P w) _ (callWith p3 (.ref h2.objs.size) [] (backTo p3 (starEach (e :: es) (PySem.W.ksEnv qual scope s.heap.objs.size f (.ref cda) cc))) []) _ _ _
  have ru := hta.run p3 _ _ _ _ _ I4 hT
  have ru' : wpAny (model P w) (A.deeper (PySem.W.ksEnv qual scope s.heap.objs.size f (.ref cda) cc)) (spliced (backTo p3 (starEach (e :: es) (PySem.W.ksEnv qual scope s.heap.objs.size f (.ref cda) cc)))) _ (fun _ _ => False) _ := ru
  rw [hev] at ru' ⊢
  refine PySem.W.kxs_callWith (i := b.ini) (x := a) (by show (false || (backTo p3 (starEach es _)).any (·.1)) = false; rw [hpv]; rfl) (PySem.Calls.evalArgs_plain ?_)
  refine wpAny_mono ru' (fun ws s5 h5 => ?_) fun _ _ z => z.elim
  obtain ⟨vs5, H5, I5, r5, hl5, he5, hT5⟩ := h5
  have hu5 := (I5.pin _ (List.mem_append_right _ List.mem_cons_self)).1
  refine ⟨hu5, ?_⟩
  refine boundG T.oex I5 he5 hu5 (by show ws.length ≤ sizeLine; rw [← Paired.length r5, sizeLine_eq]; omega) fun s6 I6 => ?_
  have go := ht.run _ _ _ _ _ I6 hT5
  refine wpAt_of_wpAny ?_
  refine wpAny_mono go (fun fl s7 h7 => ?_) fun _ _ z => z.elim
  match fl, h7 with
  | .ret u, ⟨v, σ2, H2, J7, rv, q7⟩ => exact ⟨v, H2, J7.os, J7.bare, J7.base, J7.hok, rv, q7⟩
  | .next, ⟨σ2, H2, J7, q7⟩ => exact ⟨V.non, H2, J7.os, J7.bare, J7.base, J7.hok, rfl, q7⟩
  | .brk, ⟨_, _, _, q7⟩ => exact q7.elim
  | .cont, ⟨_, _, _, q7⟩ => exact q7.elim
end
end Cr
/-! len(o) by an own __len__ -/
namespace Cr
open PySem PySem.Spec PyProof.Rows L2 Evl
theorem Env0.in1 {P : Program} {w : World} {K : PySem.W.Frag} {mg : Str → Option Value} {base : Heap} {A : Around} {outer : List Env} {s : Shared} {H : Hp} (e : Env0 P w K mg base A outer s H) : Env0 P w K mg base A.in1 outer s H :=
  ⟨e.frames, e.mod, e.bs, e.bsz, e.funs, e.frf, e.hok, e.bare⟩
/-- a special method of an own class, called by a built-in -/
theorem special_own {X : Cx} {pins : List (Addr × Obj)} {σ : L2.St} {H : Hp} {s : Shared} {a C dx f : Addr} {fs : List (Str × V)} {name : Str} {k : Nat} {fd : FuncData} {ps : List Str} {sp : Sp} {A : Around} {us : List Value} {vs : List V} {Q : VK} {R : Option Value → Shared → Prop} {E : Value → Shared → Prop}
    (hL : PySem.W.findIn X.K (.ref C) name = some (some (.ref f))) (tF : PySem.W.typeIn X.K (.ref f) = some (.type "function")) (F : FnOk X.prog X.w X.K X.mg X.base CX0 k f fd ps sp) (hb : Binds X.K fd ps [])
    (hr : Room k A) (e0 : Env0 X.prog X.w X.K X.mg X.base A X.stack s H) (I : Inv X pins σ H s) (ha : H a = some (.ins C dx fs)) (r : Vals vs us) (h : sp (.ref a :: vs) H Q E0)
    (k : ∀ v u H' s', Inv X pins σ H' s' → RelV v u → Q v H' → R (some u) s') : wpAny (model X.prog X.w) A (callSpecial? (.ref a) name us) R E s := by
  obtain ⟨mA, J, _⟩ := ins_get I.hok ha
  obtain ⟨od, J, _⟩ := J.look
  have look : PySem.W.Looks (model X.prog X.w) s.heap (specialOf (.ref a) name) (some (.ref f)) := J.type.andThen (PySem.W.looks_findIn I.kIn hL)
  simp only [callSpecial?]
  refine wpAny_bind (look.at ?_)
  refine wpAny_holding (wpAny_bind ((PySem.W.bind_fn I.kIn (.ref a) tF).at ?_))
  refine wpAny_bind ?_
  have rel : Vals (V.ref a :: vs) (Value.ref a :: us) := .cons rfl r
  have size : (Value.ref a :: us).length = ps.length := rel.length.symm.trans (F.len _ _ _ _ h)
  refine wpAny_call (codeAny_mono (F.run A X.stack s H ⟨.ref a :: us, []⟩ (.ref a :: us) (.ref a :: vs) Q E0 hr e0 (by
    have z := hb s (.ref a :: us) I.kIn (by simpa using size)
    simpa using z) rel h) fun res s' z => ?_)
  match res, z with
  | .error _, z => exact z.elim
  | .ok .next, z => exact False.elim z
  | .ok .brk, z => exact False.elim z
  | .ok .cont, z => exact False.elim z
  | .ok (.ret u), z =>
    obtain ⟨v, H', I', rv, q⟩ := I.after z
    exact wpAny_pure (k v u H' s' I' rv q)
def rLenO (C : Addr) (sp : Sp) : List V → Hp → VK → Prop := fun xs H Q => ∃ (a dx : Addr) (fs : List (Str × V)), xs = [.ref a] ∧ H a = some (.ins C dx fs) ∧ sp [.ref a] H (fun v H' => ∃ n : Nat, v = .int (n : Int) ∧ n ≤ 100000 ∧ Q (.int (n : Int)) H') E0
theorem call_lenO {X : Cx} {C f : Addr} {k : Nat} {fd : FuncData} {ps : List Str} {sp : Sp} (hL : PySem.W.findIn X.K (.ref C) "__len__" = some (some (.ref f))) (tF : PySem.W.typeIn X.K (.ref f) = some (.type "function"))
    (F : FnOk X.prog X.w X.K X.mg X.base CX0 k f fd ps sp) (hb : Binds X.K fd ps []) (hr : Room (k + 1) X.A) : CallR X (.builtin "len") (rLenO C sp) := by
  intro pins s σ H xs us Q I r h
  obtain ⟨a, dx, fs, rfl, ha, h⟩ := h
  obtain ⟨u, rfl, ru⟩ := vals1 r
  obtain rfl : u = Value.ref a := ru
  refine Calls.call_function_entry kind_len plain_len entry_len (args_len1 _) ?_
  unfold Builtin.«len»
  refine wpAny_bind (m := oneArg "len" _) (wpAny_pure ?_)
  refine wpAny_bind (m := callSpecial? (.ref a) (PySem.Str.ofString "__len__")) (special_own (us := []) (vs := []) hL tF F hb hr.in1 (Env0.in1 I.env0) I ha .nil h ?_)
  rintro v u H' s' I' rv ⟨n, rfl, hn, q⟩
  obtain ⟨t, rfl⟩ := rv
  refine wpAny_bind (wpAny_holding (wpAny_pure ?_))
  refine wpAny_bind (wpAny_letGo ?_)
  show wpAny _ _ (if ((n : Nat) : Int) < 0 then _ else _) _ _ _
  rw [if_neg (by omega)]
  show wpAny _ _ (if ((n : Nat) : Int) ≥ 2 ^ 63 then _ else _) _ _ _
  rw [if_neg (by omega)]
  exact wpAny_bind (wpAny_mkInt (wpAny_pure ⟨_, rfl, .int (n : Int), H', I'.tok _, ⟨_, rfl⟩, q⟩))
end Cr
/-! methods that may raise, called in a try -/
namespace Cr
open PySem PySem.Spec PyProof.Rows L2 Evl
def tMethS (C : Addr) (m : Str) (sp : Sp) (E : L2.St → XK) (ta : TE) (t : TA) : TE := fun σ H Q => ta σ H fun x H1 => ∃ a dx fs, x = .ref a ∧ H1 a = some (.ins C dx fs) ∧ fs.lookup m = none ∧ t σ H1 fun vs H2 => sp (x :: vs) H2 Q (E σ)
section
variable {X : Cx} {CX : CXT} {k : Nat} {f C : Addr} {fd : FuncData} {ps : List Str} {sp : Sp} {E : L2.St → XK} {m : Str} {pos apos : Pos} {e o : Expr} {es : List Expr} {ta : TE} {t : TA}
theorem methS0 {pl : Sem Bool} (he : PE X o ta) (c : Cls X.K C) (hm : Meth X.K C m f) (F : FnOk X.prog X.w X.K X.mg X.base CX k f fd ps sp) (hr : Room k X.A) (hb : Binds X.K fd ps []) (hx : ∀ σ, PassesAt CX X σ (E σ))
    (ht : eval (.Call (.Attribute o m apos) [] [] pos) X.env = (do
      let ov ← eval o X.env
      standAt apos.atName
      let (f, first) ← holding [ov] (getMethod ov m pl)
      callWith pos f first (backTo pos (starEach [] X.env)) (backToKw pos (keywordEach [] X.env))) := by rfl) : PE X (.Call (.Attribute o m apos) [] [] pos) (tMethS C m sp E ta tNil) := by
  constructor
  intro pins s σ H Q I h
  refine PySem.W.methodCall_KW (pl := pl) (thn (he.run pins s σ H _ I h) ?_) ht
  rintro u s1 ⟨x, H1, I1, rx, a, dx, fs, rfl, ea, l, q⟩
  obtain rfl : u = Value.ref a := rx
  refine getmeth_ok I1 ea c hm l ?_
  exact PySem.W.callWith_K0 (first := [.ref a]) I1.kIn hm.kp (run_fnS (us := [.ref a]) (vs := [.ref a]) F hr hb (hx σ) I1 (.cons rfl .nil) q)
theorem methS {pl : Sem Bool} (he : PE X o ta) (c : Cls X.K C) (hm : Meth X.K C m f) (F : FnOk X.prog X.w X.K X.mg X.base CX k f fd ps sp) (hr : Room k X.A) (hb : Binds X.K fd ps []) (hx : ∀ σ, PassesAt CX X σ (E σ)) (ha : PA X (e :: es) t)
    (hst : starEach (e :: es) X.env = (false, eval e X.env) :: starEach es X.env := by rfl) (hpl : (backTo pos (starEach es X.env)).any (·.1) = false := by rfl)
    (ht : eval (.Call (.Attribute o m apos) (e :: es) [] pos) X.env = (do
      let ov ← eval o X.env
      standAt apos.atName
      let (f, first) ← holding [ov] (getMethod ov m pl)
      callWith pos f first (backTo pos (starEach (e :: es) X.env)) (backToKw pos (keywordEach [] X.env))) := by rfl) : PE X (.Call (.Attribute o m apos) (e :: es) [] pos) (tMethS C m sp E ta t) := by
  constructor
  intro pins s σ H Q I h
  refine PySem.W.methodCall_KW (pl := pl) (thn (he.run pins s σ H _ I h) ?_) ht
  rintro u s1 ⟨x, H1, I1, rx, a, dx, fs, rfl, ea, l, q⟩
  obtain rfl : u = Value.ref a := rx
  refine getmeth_ok I1 ea c hm l ?_
  refine PySem.W.callWith_K (first := [.ref a]) (h₀ := X.base) I.ok.mod.kin hm.kp (thn (ha.run pos pins s1 σ H1 _ I1 q) ?_) hst hpl
  rintro us s2 ⟨vs, H2, I2, r, q2⟩
  exact ⟨I2.kIn, run_fnS (us := .ref a :: us) (vs := .ref a :: vs) F hr hb (hx σ) I2 (.cons rfl r) q2⟩
end
end Cr
/-! defs that may raise, where no repr is under way; a caught error asked -/
namespace Cr
open PySem PySem.Spec PyProof.Rows L2 Evl

section
variable {P : Program} {w : World} {K : PySem.W.Frag} {mg : Str → Option Value} {base : Heap}
/-- a def that may raise, by its body, where it is quiet -/
theorem okGX {x qual : Str} {st : Stmt} {f : Addr} {fd : FuncData} {N ps : List Str} {k : Nat} {sp : Sp}
    (F : Fun K x qual st f fd) (S : FnScope N ps (defScope st)) (len : ∀ vs H Q E, sp vs H Q E → vs.length = ps.length)
    (hbody : ∀ (cdv : Value) (A : Around) (outer : List Env) (s : Shared) (H : Hp) (vs : List V) (Q : VK) (E : XK),
      Quiet (A.deeper (envOfC qual (defScope st) s.heap.objs.size f cdv)) →
      Room k (A.deeper (envOfC qual (defScope st) s.heap.objs.size f cdv)) → sp vs H Q E →
      ∃ t, PSs (cxOf (L2.CX P w) P w K mg base N qual (defScope st) f cdv A outer s H E) (defBody st) t ∧
        t { nx := fun _ H' => Q .non H', rt := Q } (L2.start N vs) H) :
    FnG P w K mg base (L2.CX P w) (k + 1) f fd ps sp := by
  obtain ⟨oc, od, kV, doc, pm, an, cdv, ct, osl, rfl, lk, hcd⟩ := F.ex
  refine ⟨len, fun A outer s H args us vs Q E hq hr e0 hb r hsp => ?_⟩
  have keepB : ∀ b o, base.get? b = some o → s.heap.get? b = some o := fun b o e => (e0.bs b o e).1
  have kinds : ((ps.zip us).all fun y => (defScope st).names.lookup y.1 == some .local || (defScope st).names.lookup y.1 == some .cell) = true := by
    refine List.all_eq_true.mpr fun y hy => ?_
    obtain ⟨n, v⟩ := y
    rcases S.par n (List.of_mem_zip hy).1 with z | z
    · simp [z]
    · simp [z]
  refine Att.call_fn (binds := ps.zip us) (e0.mod.kin.keeps keepB) (e0.mod.nolimit.keeps keepB) lk hcd hr.depth hb kinds (fun s1 IC => ?_) S.co S.gen S.kind
  obtain ⟨t, ht, hT⟩ := hbody cdv A outer s H vs Q E hq (hr.deeper _) hsp
  have I := inv_start (CX := L2.CX P w) (E := E) S hr.hd e0 (len _ _ _ _ hsp) r IC
  refine wpAny_mono (ht.run [] s1 (L2.start N vs) H _ I hT) (fun fl s2 h2 => ?_) fun e s2 h2 => h2
  match fl, h2 with
  | .ret u, ⟨v, σ2, H2, J, rv, q⟩ => exact ⟨v, H2, J.os, J.bare, J.base, J.hok, rv, q⟩
  | .next, ⟨σ2, H2, J, q⟩ => exact ⟨V.non, H2, J.os, J.bare, J.base, J.hok, rfl, q⟩
  | .brk, ⟨_, _, _, q⟩ => exact q.elim
  | .cont, ⟨_, _, _, q⟩ => exact q.elim
end

section
variable {X : Cx} {CX : CXT} {k n : Nat} {f : Addr} {fd : FuncData} {ps ks : List Str} {sp : Sp} {dvs : List V} {ds : List Value} {E : L2.St → XK} {x : Str} {p pos : Pos} {e : Expr} {es : List Expr} {kws : List Keyword} {t tk : TA}
  {g : List Value → List Value → List Value} {gV : List V → List V → List V}
theorem endG {pins : List (Addr × Obj)} {σ : L2.St} {H : Hp} {s : Shared} {Q : VK} {args : Args} {E : XK} {r : Result} {s2 : Shared} (hx : PassesAt CX X σ E) (I : Inv X pins σ H s) (z : CR CX X.stack X.prog X.w H s Q E r s2) :
    wants (EP X pins σ Q) X.xe r s2 := by
  match r, z with
  | .error e, z => exact hx pins H s e s2 I z
  | .ok (.ret u), z => exact Inv.after I z
  | .ok .next, z => exact False.elim z
  | .ok .brk, z => exact False.elim z
  | .ok .cont, z => exact False.elim z
/-- f(e, ..), what is raised wished for at the caller's slots -/
theorem callGS (F : FnG X.prog X.w X.K X.mg X.base CX k f fd ps sp) (hq : Quiet X.A) (hr : Room k X.A) (hg : Gl X x)
    (hm : X.mg x = some (.ref f)) (hk : PySem.W.keepIn X.K (.ref f) = true) (hb : Binds X.K fd ps ds) (hd : Vals dvs ds) (hx : ∀ σ, PassesAt CX X σ (E σ))
    (ha : PA X (e :: es) t) (hdb : (x == ("__debug__" : Str)) = false := by decide)
    (he : starEach (e :: es) X.env = (false, eval e X.env) :: starEach es X.env := by rfl)
    (hpl : (backTo pos (starEach es X.env)).any (·.1) = false := by rfl) :
    PE X (.Call (.Name x p) (e :: es) [] pos) (tCallSD sp dvs E t) := by
  refine ⟨fun pins s σ H Q I h => ?_⟩
  refine wpAny_Call_Name_kw (ld_glob I hg hm ?_ hdb)
  refine PySem.W.callWith_K (h₀ := X.base) I.ok.mod.kin hk ?_ he hpl
  refine thn (ha.run pos pins s σ H _ I h) ?_
  rintro us s1 ⟨vs, H1, I1, r, q⟩
  refine ⟨I1.kIn, ?_⟩
  have rr : Vals (vs ++ dvs) (us ++ ds) := Vals.append r hd
  have nn : (us ++ ds).length = ps.length := rr.length.symm.trans (F.sized _ _ _ _ q)
  exact wpAny_call (codeAny_mono (F.goes X.A X.stack s1 H1 ⟨us, []⟩ (us ++ ds) (vs ++ dvs) Q (E σ) hq hr (Inv.env0 I1) (hb s1 us I1.kIn nn) rr q) fun r s' hq' => endG (args := ⟨us, []⟩) (hx σ) I1 hq')
/-- f(e, .., k = v, ..) -/
def tCallNS (n m : Nat) (sp : Sp) (gV : List V → List V → List V) (E : L2.St → XK) (t tk : TA) : TE := fun σ H Q => t σ H fun vs H1 => tk σ H1 fun zs H2 => vs.length = n ∧ zs.length = m ∧ sp (gV vs zs) H2 Q (E σ)
theorem callGN (F : FnG X.prog X.w X.K X.mg X.base CX k f fd ps sp) (hq : Quiet X.A) (hr : Room k X.A) (hg : Gl X x) (hm : X.mg x = some (.ref f)) (hk : PySem.W.keepIn X.K (.ref f) = true) (hb : KBn X.K fd ps n ks g gV) (hx : ∀ σ, PassesAt CX X σ (E σ))
    (ha : PA X (e :: es) t) (hkw : PK X kws tk) (hall : (backToKw pos (keywordEach kws X.env)).all (·.1.isSome) = true := by rfl) (hks : (backToKw pos (keywordEach kws X.env)).filterMap (·.1) = ks := by rfl)
    (hdb : (x == ("__debug__" : Str)) = false := by decide) (he : starEach (e :: es) X.env = (false, eval e X.env) :: starEach es X.env := by rfl)
    (hpl : ((backTo pos (starEach (e :: es) X.env)).any (·.1) || (backToKw pos (keywordEach kws X.env)).any (·.1.isNone)) = false := by rfl) :
    PE X (.Call (.Name x p) (e :: es) kws pos) (tCallNS n ks.length sp gV E t tk) := by
  refine ⟨fun pins s σ H Q I h => ?_⟩
  refine wpAny_Call_Name_kw (ld_glob I hg hm ?_ hdb)
  refine PySem.W.callWith_KW (h₀ := X.base) I.ok.mod.kin hk hall (thn (ha.run pos pins s σ H _ I h) fun us s1 ⟨vs, H1, I1, r, q⟩ => ?_) hpl he
  refine thn (hkw.run pos pins s1 σ H1 _ I1 q) fun ws s2 ⟨zs, H2, I2, rz, l1, l2, q2⟩ => ⟨I2.kIn, ?_⟩
  rw [hks]
  have r2 := hb.rel r rz
  exact wpAny_call (codeAny_mono (F.goes X.A X.stack s2 H2 ⟨us, ks.zip ws⟩ (g us ws) (gV vs zs) Q (E σ) hq hr I2.env0 (hb.to s2 us ws I2.kIn (r.length.symm.trans l1) (rz.length.symm.trans l2)) r2 q2) fun r s' hq' => endG (args := ⟨us, []⟩) (hx σ) I2 hq')
end

/-! ### isinstance of a caught error that has its dict -/
def rIsX (K : PySem.W.Frag) (D a dd : Addr) : List V → Hp → VK → Prop := fun xs H Q => ∃ (c : V) (b : Bool), xs = [.ref a, c] ∧ (∃ fs, H dd = some (.xd fs)) ∧
  ((∃ u, ClsV c u ∧ PySem.W.kitOne K (.ref D) u = some b) ∨ ∃ (tp : Addr) (cs : List V) (us : List Value), c = .ref tp ∧ H tp = some (.tup cs) ∧ Paired ClsV cs us ∧ PySem.W.kitAny K (.ref D) us = some b) ∧ Q (.bl b) H
theorem call_isX {X : Cx} {a D dd : Addr} {oe : Obj} {pn : List (Addr × Obj)} (C : ExcC X.K D) (hz : Zc (.ref D) (some dd) oe) (hf : ∃ vs, oe.data = .fields vs) : CallR (X.suite a ((a, oe) :: pn)) (.builtin "isinstance") (rIsX X.K D a dd) := by
  intro pins s σ H xs us Q I r h
  obtain ⟨c, b, rfl, ⟨fs, hdd⟩, k, q⟩ := h
  obtain ⟨u1, u2, rfl, r1, r2⟩ := vals2 r
  obtain rfl : u1 = Value.ref a := r1
  obtain ⟨hget, _⟩ := I.pin (a, oe) (List.mem_append.mpr (.inl List.mem_cons_self))
  obtain ⟨vs, hv⟩ := hf
  have hx : ObjOk X.prog X.w H s.heap dd (.xd fs) := I.hok dd _ hdd
  obtain ⟨mA, hns, hr⟩ := hx
  obtain ⟨od, ho, _⟩ := lookIn_ns hns
  have J : PySem.W.InstAt s.heap a oe D (some od) := by
    refine ⟨hget, hz.1, by unfold PySem.W.notCls; rw [hv] <;> rfl, ?_⟩
    rw [hz.2]
    exact ho
  have hcl : (PySem.W.clsIn X.K D).isSome = true := by
    obtain ⟨cd, hc, _⟩ := PySem.W.any_some C.hd
    rw [hc]; rfl
  have Z : PySem.W.KitX X.K (.ref a) (.ref D) (fun h => PySem.W.InstAt h a oe D (some od)) := PySem.W.kitx_exc hcl C.hg C.hk C.hs C.ha C.hn C.ht C.hm
  rcases k with ⟨u, ku, e⟩ | ⟨tp, cs, us', rfl, hT, ku, e⟩
  · have e2 := ku.eq r2
    subst e2
    exact PySem.W.kia_one Z I.kIn J e (fun z => nomatch z) fun tk => ⟨.bl b, H, I.tok tk, rfl, q⟩
  · cases (show u2 = Value.ref tp from r2)
    obtain ⟨_, its, rv, o, h1, h2, n, h3⟩ := (show ObjOk X.prog X.w H s.heap tp (.tup cs) from I.hok tp _ hT)
    have e3 := ClsV.all ku rv
    subst e3
    obtain ⟨oc, od', dt, sl⟩ := o
    simp only at h2 h3
    subst h2 h3
    exact PySem.W.kia_tup Z I.kIn J h1 e (fun z => nomatch z) fun tk => ⟨.bl b, H, I.tok tk, rfl, q⟩

/-! ### an error with one number -/
/-- its __init__: the number in the field f -/
def spInit (C : Addr) (f : Str) : Sp := fun vs H Q _ => ∃ (a : Addr) (i : Int), vs = [.ref a, .int i] ∧ i.natAbs.log2 < 1000 ∧ H a = some (exo a C none) ∧
  ∀ dx, H dx = none → dx ≠ a → Q .non (upd (upd H dx (exd dx [(f, .int i)])) a (exo a C (some dx)))
theorem mk_num {C : Addr} {f : Str} {ta : TA} {σ : L2.St} {H : Hp} {Q : XK} (h : ta σ H fun vs H1 => ∃ i : Int, vs = [.int i] ∧ i.natAbs.log2 < 1000 ∧ ∀ dx, H1 dx = none → Q (.ref C) (some dx) (upd H1 dx (.xd [(f, .int i)])))
    (mono : ∀ {σ : L2.St} {H : Hp} {R S : List V → Hp → Prop}, (∀ vs H1, R vs H1 → S vs H1) → ta σ H R → ta σ H S) : tMkO C (spInit C f) [] ta σ H Q := by
  refine mono (fun vs H1 hh => ?_) h
  obtain ⟨i, rfl, hi, q⟩ := hh
  refine ⟨by show 1 ≤ 1000; decide, fun a ha => ⟨a, i, rfl, hi, upd_same, fun dx hdx ne => ⟨rfl, dx, [(f, .int i)], upd_same, ?_, ?_, ?_⟩⟩⟩
  · rw [upd_ne ne, upd_same]
  · rw [upd_ne ne] at hdx
    exact hdx
  · have e : upd (del (upd (upd (upd H1 a (exo a C none)) dx (exd dx [(f, .int i)])) a (exo a C (some dx))) a) dx (.xd [(f, .int i)]) = upd H1 dx (.xd [(f, .int i)]) := by
      funext b
      by_cases hb : b = dx
      · rw [hb, upd_same, upd_same]
      · rw [upd_ne hb, upd_ne hb]
        by_cases hba : b = a
        · rw [hba, del_same, ha]
        · rw [del_ne hba, upd_ne hba, upd_ne hb, upd_ne hba]
    rw [e]
    rw [upd_ne ne] at hdx
    exact q dx hdx
end Cr
/-! data whose text is short: by bulk and depth -/
namespace Cr
open PySem PySem.Spec PyProof.Rows L2 Evl
/-- leaves of at most 80 signs, so much bulk, so deep -/
structure Sz (b m : Nat) (d : PyData) : Prop where
  sh : d.showable = true
  lf : d.leavesShort 80 = true
  bk : d.bulk ≤ b
  dp : d.depth ≤ m
structure SzA (b m : Nat) (ds : List PyData) : Prop where
  sh : PyData.showableAll ds = true
  lf : PyData.leavesShortAll 80 ds = true
  bk : PyData.bulkAll ds ≤ b
  dp : PyData.depthAll ds ≤ m
structure SzK (b m : Nat) (es : List (PyData × PyData)) : Prop where
  sh : PyData.showableKv es = true
  lf : PyData.leavesShortKv 80 es = true
  bk : PyData.bulkKv es ≤ b
  dp : PyData.depthKv es ≤ m
theorem Sz.fits {b m : Nat} {d : PyData} (h : Sz b m d) (hb : b ≤ 100000) (hm : m ≤ 50) : Fits d := by
  refine ⟨h.sh, Nat.le_trans h.dp hm, ?_⟩
  have z := PyData.shown_le_bulk 80 (by decide) d h.lf
  have y := h.bk
  rw [sizeLine_eq]
  omega
theorem Sz.mono {b b' m m' : Nat} {d : PyData} (h : Sz b m d) (hb : b ≤ b') (hm : m ≤ m') : Sz b' m' d := ⟨h.sh, h.lf, Nat.le_trans h.bk hb, Nat.le_trans h.dp hm⟩
theorem sz_none {b m : Nat} : Sz b m .none := ⟨rfl, rfl, Nat.zero_le _, Nat.zero_le _⟩
theorem sz_bool {b m : Nat} {x : Bool} : Sz b m (.bool x) := ⟨rfl, rfl, Nat.zero_le _, Nat.zero_le _⟩
theorem sz_int {b m : Nat} {i : Int} (h : i.natAbs ≤ 10 ^ 70) : Sz b m (.int i) := by
  refine ⟨?_, ?_, Nat.zero_le _, Nat.zero_le _⟩
  · rw [PyData.showable]
    refine decide_eq_true ?_
    by_cases hz : i.natAbs = 0
    · rw [hz]; decide
    · have e : (10 : Nat) ^ 70 < 2 ^ 300 := by decide
      have := (Nat.log2_lt (k := 300) hz).mpr (by omega)
      omega
  · rw [PyData.leavesShort]
    refine decide_eq_true ?_
    have e := int_text_length_le10 (k := 71) (a := i) (by decide) (Nat.lt_of_le_of_lt h (by decide))
    show (Str.ofString (toString i)).length ≤ 80
    rw [PySem.ofString_length]
    omega
theorem sz_str {b m : Nat} {x : Str} (hb : x.length ≤ b) (hx : ∀ c ∈ x.cps.toList, c < 1000) : Sz b m (.str x) := by
  refine ⟨rfl, ?_, ?_, Nat.zero_le _⟩
  · rw [PyData.leavesShort]
    exact List.all_eq_true.mpr fun c hc => decide_eq_true (Nat.lt_trans (hx c hc) (by decide))
  · rw [PyData.bulk]
    exact hb
theorem sza_nil {b m : Nat} : SzA b m [] := ⟨rfl, rfl, Nat.zero_le _, Nat.zero_le _⟩
theorem sza_cons {b b' m : Nat} {d : PyData} {ds : List PyData} (h : Sz b m d) (r : SzA b' m ds) : SzA (b + 1 + b') m (d :: ds) := by
  refine ⟨by rw [PyData.showableAll, h.sh, r.sh]; rfl, by rw [PyData.leavesShortAll, h.lf, r.lf]; rfl, ?_, ?_⟩
  · have h1 := h.bk
    have h2 := r.bk
    rw [PyData.bulkAll]
    omega
  · rw [PyData.depthAll]
    exact Nat.max_le.mpr ⟨h.dp, r.dp⟩
theorem szk_nil {b m : Nat} : SzK b m [] := ⟨rfl, rfl, Nat.zero_le _, Nat.zero_le _⟩
theorem szk_cons {a b b' m : Nat} {k d : PyData} {es : List (PyData × PyData)} (hk : Sz a m k) (h : Sz b m d) (r : SzK b' m es) : SzK (a + b + 2 + b') m ((k, d) :: es) := by
  refine ⟨by rw [PyData.showableKv, hk.sh, h.sh, r.sh]; rfl, by rw [PyData.leavesShortKv, hk.lf, h.lf, r.lf]; rfl, ?_, ?_⟩
  · have h0 := hk.bk
    have h1 := h.bk
    have h2 := r.bk
    rw [PyData.bulkKv]
    omega
  · rw [PyData.depthKv]
    exact Nat.max_le.mpr ⟨Nat.max_le.mpr ⟨hk.dp, h.dp⟩, r.dp⟩
theorem sz_list {b m : Nat} {ds : List PyData} (h : SzA b m ds) : Sz b (m + 1) (.list ds) := ⟨by rw [PyData.showable]; exact h.sh, by rw [PyData.leavesShort]; exact h.lf, by rw [PyData.bulk]; exact h.bk, by rw [PyData.depth]; exact Nat.succ_le_succ h.dp⟩
theorem sz_tuple {b m : Nat} {ds : List PyData} (h : SzA b m ds) : Sz b (m + 1) (.tuple ds) := ⟨by rw [PyData.showable]; exact h.sh, by rw [PyData.leavesShort]; exact h.lf, by rw [PyData.bulk]; exact h.bk, by rw [PyData.depth]; exact Nat.succ_le_succ h.dp⟩
theorem sz_dict {b m : Nat} {es : List (PyData × PyData)} (h : SzK b m es) : Sz b (m + 1) (.dict es) := ⟨by rw [PyData.showable]; exact h.sh, by rw [PyData.leavesShort]; exact h.lf, by rw [PyData.bulk]; exact h.bk, by rw [PyData.depth]; exact Nat.succ_le_succ h.dp⟩
theorem sza_all {b m : Nat} : ∀ {ds : List PyData}, (∀ d ∈ ds, Sz b m d) → SzA ((b + 1) * ds.length) m ds
  | [], _ => ⟨rfl, rfl, Nat.zero_le _, Nat.zero_le _⟩
  | d :: r, h => by
    have z := sza_cons (h d List.mem_cons_self) (sza_all fun x hx => h x (List.mem_cons_of_mem _ hx))
    refine ⟨z.sh, z.lf, ?_, z.dp⟩
    have y := z.bk
    rw [List.length_cons, Nat.mul_add, Nat.mul_one]
    omega
end Cr
/-! the program's own defs -/
namespace Cr
open PySem PySem.Spec PyProof.Rows L2 Evl
def topS (i : Nat) : Stmt := PySem.Challenge.pw_cycleready_k12_programs_checked.main.body.getD i (.Pass ⟨0, 0, 0, 0⟩)
abbrev sIsInteger : Stmt := topS 10
abbrev sIsName : Stmt := topS 11
abbrev sIsVariable : Stmt := topS 12
abbrev sIsItem : Stmt := topS 16
abbrev sIsStep : Stmt := topS 17
theorem scIsInteger : FnScope ["value"] ["value"] (defScope sIsInteger) := ⟨rfl, rfl, rfl, by decide +kernel, rfl, by decide +kernel, by decide +kernel⟩
theorem scIsName : FnScope ["value", "letter"] ["value"] (defScope sIsName) := ⟨rfl, rfl, rfl, by decide +kernel, rfl, by decide +kernel, by decide +kernel⟩
theorem scIsVariable : FnScope ["value"] ["value"] (defScope sIsVariable) := ⟨rfl, rfl, rfl, by decide +kernel, rfl, by decide +kernel, by decide +kernel⟩
theorem scIsItem : FnScope ["value", "kind"] ["value", "kind"] (defScope sIsItem) := ⟨rfl, rfl, rfl, by decide +kernel, rfl, by decide +kernel, by decide +kernel⟩
theorem scIsStep : FnScope ["value", "shape", "item", "kind"] ["value"] (defScope sIsStep) := ⟨rfl, rfl, rfl, by decide +kernel, rfl, by decide +kernel, by decide +kernel⟩

/-- the built-ins are the built-ins -/
structure Blt (mg : Str → Option Value) : Prop where
  isi : mg "isinstance" = none
  int : mg "int" = none
  bool : mg "bool" = none
  str : mg "str" = none
  tuple : mg "tuple" = none
  list : mg "list" = none
  len : mg "len" = none
  all : mg "all" = none
  zip : mg "zip" = none
  repr : mg "repr" = none
  range : mg "range" = none
  max : mg "max" = none
  min : mg "min" = none
  abs : mg "abs" = none
  divmod : mg "divmod" = none
  enum : mg "enumerate" = none
  sorted : mg "sorted" = none
  sup : mg "super" = none
  verr : mg "ValueError" = none
  rerr : mg "RuntimeError" = none
  dict : mg "dict" = none
theorem bIsi : bootBuiltins "isinstance" = some (.builtin "isinstance") := by decide +kernel
theorem bLen : bootBuiltins "len" = some (.builtin "len") := by decide +kernel
theorem bAll : bootBuiltins "all" = some (.builtin "all") := by decide +kernel
theorem bRepr : bootBuiltins "repr" = some (.builtin "repr") := by decide +kernel
theorem bInt : bootBuiltins "int" = some (.type "int") := by decide +kernel
theorem bBool : bootBuiltins "bool" = some (.type "bool") := by decide +kernel
theorem bStr : bootBuiltins "str" = some (.type "str") := by decide +kernel
theorem bTuple : bootBuiltins "tuple" = some (.type "tuple") := by decide +kernel
theorem bDict : bootBuiltins "dict" = some (.type "dict") := by decide +kernel
theorem bEnum : bootBuiltins "enumerate" = some (.type "enumerate") := by decide +kernel
theorem bVerr : bootBuiltins "ValueError" = some (.type "ValueError") := by decide +kernel
theorem bRerr : bootBuiltins "RuntimeError" = some (.type "RuntimeError") := by decide +kernel
theorem bList : bootBuiltins "list" = some (.type "list") := by decide +kernel

/-! ### what they say -/
def isInteger (d : PyData) : Bool := isT "int" d && !isT "bool" d
def atLeast (n : Int) : PyData → Bool
  | .int i => decide (n ≤ i)
  | _ => false
def isCount (d : PyData) : Bool := isInteger d && atLeast 0 d
def isNameS (x : Str) : Bool := (decide ((1 : Int) ≤ x.length) && decide ((x.length : Int) ≤ 8)) && x.cps.toList.all isLow
def isName : PyData → Bool
  | .str x => isNameS x
  | _ => false
def vars4 : List Str := ["a", "b", "c", "d"]
def isVar : PyData → Bool
  | .str x => vars4.any fun y => y == x
  | _ => false
theorem isInteger_int (i : Int) : isInteger (.int i) = true := rfl
section
variable {P : Program} {w : World} {K : PySem.W.Frag} {mg : Str → Option Value} {base : Heap}
theorem memI : "int" ∈ ["int", "bool", "str", "list", "tuple", "dict"] := by decide
theorem memB : "bool" ∈ ["int", "bool", "str", "list", "tuple", "dict"] := by decide
theorem memS : "str" ∈ ["int", "bool", "str", "list", "tuple", "dict"] := by decide
theorem memT : "tuple" ∈ ["int", "bool", "str", "list", "tuple", "dict"] := by decide

theorem ok_isInteger {f : Addr} {fd : FuncData} {k : Nat} (F : Fun K "is_integer" "is_integer" sIsInteger f fd) (B : Blt mg) : FnOk P w K mg base CX0 (k + 1) f fd ["value"] (spD isInteger) := by
  refine F.ok scIsInteger spD_len (fun cdv A outer s H vs Q E hr h => ?_)
  obtain ⟨v, d, rfl, hd, _, q⟩ := h
  refine ⟨_, pss_one (ps_ret (pe_and (pe_callB call_isi (by rfl) B.isi bIsi (pa_cons (pv 0) (pa_cons (pe_bltn (v := .ty "int") (by rfl) B.int bInt rfl) pa_nil)))
    (pe_one (pe_not (pe_callB call_isi (by rfl) B.isi bIsi (pa_cons (pv 0) (pa_cons (pe_bltn (v := .ty "bool") (by rfl) B.bool bBool rfl) pa_nil))))))), ?_⟩
  refine s_ret (ev_andV (ev_cb (ea_cons (ev_var rfl) (ea_cons ev_c ea_nil)) (rc_isi hd memI)) fun _ => ev_notV (ev_cb (ea_cons (ev_var rfl) (ea_cons ev_c ea_nil)) (rc_isi hd memB))) q

theorem ok_isName {f : Addr} {fd : FuncData} {k : Nat} (F : Fun K "is_name" "is_name" sIsName f fd) (B : Blt mg) {tL : Tok} (gL : mg "LONGEST_NAME" = some (.int 8 tL)) : FnOk P w K mg base CX0 (k + 1) f fd ["value"] (spD isName) := by
  refine F.ok scIsName spD_len (fun cdv A outer s H vs Q E hr h => ?_)
  obtain ⟨v, d, rfl, hd, hs, q⟩ := h
  refine ⟨_, pss_cons (ps_if (PW.pt (pw_or (pt_not (pt_val (pe_callB call_isi (by rfl) B.isi bIsi (pa_cons (pv 0) (pa_cons (pe_bltn (v := .ty "str") (by rfl) B.str bStr rfl) pa_nil)))))
      (pw_or1 (pt_not (pt_chain op_le op_le pe_int (pe_callB call_len_str (by rfl) B.len bLen (pa_cons (pv 0) pa_nil)) (pe_glob (v := .int 8) (by rfl) gL ⟨_, rfl⟩))))))
      (pss_one (ps_ret pe_bl)) pss_nil)
    (pss_one (ps_ret (pe_callB (cr_all rfl) (by rfl) B.all bAll (pa_cons
      (pe_lc (own := [("letter", 1)]) (g := gName 1) (tt := tYes) rfl scIsName.nd (pi_str (pv 0)) (blkOk_by (own := [("letter", 1)]) (N := ["value", "letter"]) (sc := defScope sIsName) (by decide +kernel))
        (fun _ _ _ _ _ => pg_name (i := 1) scIsName.nd rfl (Or.inl rfl)) (fun _ _ _ _ _ => pts_nil) (fun _ _ _ _ _ => pe_chain op_leS op_leS pe_str (pv 1) pe_str)) pa_nil)))), ?_⟩
  have isS := rc_isi (K := K) hd memS
  cases hd with
  | str x =>
    have hx : x.length ≤ 1000 := by
      rw [sm] at hs
      exact of_decide_eq_true hs
    refine q_when (et_or (et_not (et_B (ev_cb (ea_cons (ev_var rfl) (ea_cons ev_c ea_nil)) isS))) fun _ => et_not (et_test (ev_chain ev_c (ev_cb (ea_cons (ev_var rfl) ea_nil) (rc_lenS hx)) rv_I0 (fun _ => ev_c) fun _ => rv_I0))) (fun hb H1 e1 => ?_) (fun hb H1 e1 => ?_)
    · refine s_ret ev_c fun H2 e2 => ?_
      have z : isName (.str x) = false := by
        have hb' : (!(isT "str" (.str x)) || !(decide ((1 : Int) ≤ x.length) && decide ((x.length : Int) ≤ 8))) = true := hb
        have e : isT "str" (.str x) = true := rfl
        rw [e, Bool.not_true, Bool.false_or] at hb'
        show ((decide ((1 : Int) ≤ x.length) && decide ((x.length : Int) ≤ 8)) && x.cps.toList.all isLow) = false
        rw [Bool.not_eq_true'] at hb'
        rw [hb', Bool.false_and]
      have g := q H2 (e1.trans e2)
      rw [z] at g
      exact g
    · have ch : ∀ c : Nat, (!decide ((⟨#[c]⟩ : Str).cps.toList < (("a" : Str)).cps.toList) && !decide ((("z" : Str)).cps.toList < (⟨#[c]⟩ : Str).cps.toList)) = isLow c := fun c => by
        have ea : (("a" : Str)).cps.toList = [97] := by decide +kernel
        have ez : (("z" : Str)).cps.toList = [122] := by decide +kernel
        have ec : (⟨#[c]⟩ : Str).cps.toList = [c] := rfl
        rw [ea, ez, ec, one_lt, one_lt]
        unfold isLow
        congr 1
        · by_cases hc : 97 ≤ c
          · rw [decide_eq_true hc, decide_eq_false (show ¬ c < 97 by omega)]; rfl
          · rw [decide_eq_false hc, decide_eq_true (show c < 97 by omega)]; rfl
        · by_cases hc : c ≤ 122
          · rw [decide_eq_true hc, decide_eq_false (show ¬ 122 < c by omega)]; rfl
          · rw [decide_eq_false hc, decide_eq_true (show 122 < c by omega)]; rfl
      have lc := el_lcW (wi := iStr (tVar 0)) (g := gName 1) (tt := tYes) (te := tChain rLeS rLeS (tC (.str "a")) (tVar 1) (tC (.str "z"))) (vs := [1]) (σ := start ["value", "letter"] [V.str x]) (H := H1) (fun _ => true) (fun i => .bl (isLow (x.cps.toList.getD i 0))) (Y := fun i H v H' => H' = H ∧ ∃ c, x.cps[i]? = some c ∧ v = .str ⟨#[c]⟩) (n := x.cps.size) (by have : x.cps.size = x.length := rfl; omega)
        (fun H2 e R r => ⟨.str x, rfl, x, rfl, r H2 _ _ walk_str (fun _ _ _ z => z) (Ex.refl H2) trivial⟩) (fun i y H2 H3 e hi hy => by
          obtain ⟨rfl, c, hc, rfl⟩ := hy
          refine ⟨Ex.refl _, [some (.str x), some (.str ⟨#[c]⟩)], rfl, fun R r => r, fun H4 _ Q q => q H4 (Ex.refl H4), fun _ => ?_⟩
          have ec : x.cps.toList.getD i 0 = c := by
            rw [List.getD, Array.getElem?_toList, hc]; rfl
          show Ev _ _ _ (.bl (isLow (x.cps.toList.getD i 0)))
          rw [ec, ← ch c]
          exact ev_chain ev_c (ev_var rfl) rv_leS (fun _ => ev_c) fun _ => rv_leS)
      have e1' : given x.cps.size (fun _ => true) (fun i => V.bl (isLow (x.cps.toList.getD i 0))) = ((List.range x.cps.size).map fun i => isLow (x.cps.toList.getD i 0)).map V.bl := by
        rw [given_all, List.map_map]; rfl
      rw [e1'] at lc
      refine s_ret (ev_all lc) fun H2 e2 => ?_
      have hb' : (!(isT "str" (.str x)) || !(decide ((1 : Int) ≤ x.length) && decide ((x.length : Int) ≤ 8))) = false := hb
      have e : isT "str" (.str x) = true := rfl
      rw [e, Bool.not_true, Bool.false_or, Bool.not_eq_false'] at hb'
      have z : isName (.str x) = ((List.range x.cps.size).map fun i => isLow (x.cps.toList.getD i 0)).all id := by
        show ((decide ((1 : Int) ≤ x.length) && decide ((x.length : Int) ≤ 8)) && x.cps.toList.all isLow) = _
        rw [hb', Bool.true_and, ← all_range x.cps.toList 0 isLow]
        rfl
      have g := q H2 (e1.trans e2)
      rw [z] at g
      exact g
  | _ =>
    refine q_when (b := true) (et_is (et_or (et_not (et_B (ev_cb (ea_cons (ev_var rfl) (ea_cons ev_c ea_nil)) isS))) (b := false) fun z => absurd z (by first | decide | simp [isT, isTs, tyT])) (by first | decide | simp [isT, isTs, tyT])) (fun _ H1 e1 => s_ret ev_c fun H2 e2 => q H2 (e1.trans e2)) (fun z => absurd z (by decide))
end
end Cr
namespace Cr
open PySem PySem.Spec PyProof.Rows L2 Evl
/-- a tuple of the module's top -/
def KTup (K : PySem.W.Frag) (a : Addr) (xs : List V) : Prop := ∃ (o : Obj) (its : Array Value) (n : Nat), K.lookup a = some o ∧ o.cls = .type "tuple" ∧ o.data = .seq its n ∧ its.size ≤ sizeLine ∧ Vals xs its.toList
theorem KTup.sq {K : PySem.W.Frag} {H : Hp} {a : Addr} {xs : List V} (h : KTup K a xs) : SqT K H a xs := .inr h
/-! ### the mirror -/
def isItem (d : PyData) (k : Str) : Bool :=
  if k = "variable" then isVar d
  else if k = "integer" then isInteger d
  else if k = "length" then isInteger d && atLeast 1 d
  else isName d
def shapeOf (z : Str) : Option (List Str) :=
  if z = "set" then some ["variable", "integer"] else if z = "add" then some ["variable", "variable"] else if z = "skip" then some ["variable", "length"]
  else if z = "export" then some ["name", "variable"] else if z = "read" then some ["variable", "module", "name"] else if z = "need" then some ["module"]
  else if z = "try" then some ["module", "variable"] else if z = "fail" then some [] else none
def stepItems (ds : List PyData) (ks : List Str) : Bool := ((List.range ks.length).map fun i => isItem (ds.getD i .none) (ks.getD i "")).all id
def isStep : PyData → Bool
  | .tuple (.str z :: ds) => (match shapeOf z with
    | some ks => decide (ds.length = ks.length) && stepItems ds ks
    | none => false)
  | _ => false
def plain3 : List Str := ["set", "add", "skip"]
def isPlain (d : PyData) : Bool := isStep d && (match d with
  | .tuple (.str z :: _) => plain3.any fun y => y == z
  | _ => false)
/-- the table of shapes, as the top left it -/
structure Shapes (K : PySem.W.Frag) (w : World) (dS : Addr) (es : Array DictEntry) (n : Nat) : Prop where
  kd : KDict K w dS es n
  no : ∀ z, shapeOf z = none → PySem.W.nsIn K dS z = some none
  yes : ∀ z ks, shapeOf z = some ks → ∃ a, PySem.W.nsIn K dS z = some (some (.ref a)) ∧ KTup K a (ks.map V.str)
theorem inV_strs (z : Str) (l : List Str) : inV (.str z) (l.map V.str) = l.any fun y => y == z := by
  unfold inV
  rw [List.any_map]
  rfl
theorem flat_strs (l : List Str) : (l.map V.str).all flatV = true := by
  rw [List.all_map]
  exact List.all_eq_true.mpr fun _ _ => rfl
/-- is_item's promise -/
def spItem : Sp := fun vs H Q _ => ∃ v d k, vs = [v, .str k] ∧ Dt H v d ∧ sm d = true ∧ ∀ H', Ex H H' → Q (.bl (isItem d k)) H'
section
variable {P : Program} {w : World} {K : PySem.W.Frag} {mg : Str → Option Value} {base : Heap}
theorem ok_isVar {f aV : Addr} {fd : FuncData} {k : Nat} (F : Fun K "is_variable" "is_variable" sIsVariable f fd) (B : Blt mg) (gV : mg "VARIABLES" = some (.ref aV)) (tV : KTup K aV (vars4.map V.str)) : FnOk P w K mg base CX0 (k + 1) f fd ["value"] (spD isVar) := by
  refine F.ok scIsVariable spD_len (fun cdv A outer s H vs Q E hr h => ?_)
  obtain ⟨v, d, rfl, hd, _, q⟩ := h
  refine ⟨_, pss_one (ps_ret (pe_and (pe_callB call_isi (by rfl) B.isi bIsi (pa_cons (pv 0) (pa_cons (pe_bltn (v := .ty "str") (by rfl) B.str bStr rfl) pa_nil)))
    (pe_one (pe_cmpR op_in_seq (pv 0) (pe_glob (v := .ref aV) (by rfl) gV rfl) (by rfl))))), ?_⟩
  have isS := rc_isi (K := K) hd memS
  cases hd with
  | str x =>
    refine s_ret (v := .bl (isVar (.str x))) (ev_is (ev_andV (b := inV (.str x) (vars4.map V.str)) (ev_cb (ea_cons (ev_var rfl) (ea_cons ev_c ea_nil)) isS) fun _ => ev_op (ev_var rfl) ev_c (rv_isT tV.sq rfl (flat_strs _))) ?_) q
    rw [inV_strs]
    rfl
  | _ => exact s_ret (ev_andV (b := false) (ev_cb (ea_cons (ev_var rfl) (ea_cons ev_c ea_nil)) isS) fun z => absurd z (by first | decide | simp [isT, isTs, tyT])) (by first | exact q | simpa [isT, isTs, tyT, isVar] using q)

theorem ok_isItem {f fI fV fN : Addr} {fd fdI fdV fdN : FuncData} {k : Nat} (F : Fun K "is_item" "is_item" sIsItem f fd)
    (GI : FnOk P w K mg base CX0 k fI fdI ["value"] (spD isInteger)) (bI : Binds K fdI ["value"] []) (kI : PySem.W.keepIn K (.ref fI) = true) (gI : mg "is_integer" = some (.ref fI))
    (GV : FnOk P w K mg base CX0 k fV fdV ["value"] (spD isVar)) (bV : Binds K fdV ["value"] []) (kV : PySem.W.keepIn K (.ref fV) = true) (gV : mg "is_variable" = some (.ref fV))
    (GN : FnOk P w K mg base CX0 k fN fdN ["value"] (spD isName)) (bN : Binds K fdN ["value"] []) (kN : PySem.W.keepIn K (.ref fN) = true) (gN : mg "is_name" = some (.ref fN)) :
    FnOk P w K mg base CX0 (k + 1) f fd ["value", "kind"] spItem := by
  refine F.ok scIsItem (fun vs H Q E h => by obtain ⟨_, _, _, rfl, _⟩ := h; rfl) (fun cdv A outer s H vs Q E hr h => ?_)
  obtain ⟨v, d, kd, rfl, hd, hs, q⟩ := h
  refine ⟨_, pss_cons (ps_if (pt_cmpR op_eq (pv 1) pe_str (nomark _)) (pss_one (ps_ret (pe_call GV hr (by rfl) gV kV bV .nil pass0 (pa_cons (pv 0) pa_nil)))) pss_nil)
    (pss_cons (ps_if (pt_cmpR op_eq (pv 1) pe_str (nomark _)) (pss_one (ps_ret (pe_call GI hr (by rfl) gI kI bI .nil pass0 (pa_cons (pv 0) pa_nil)))) pss_nil)
    (pss_cons (ps_if (pt_cmpR op_eq (pv 1) pe_str (nomark _)) (pss_one (ps_ret (pe_and (pe_call GI hr (by rfl) gI kI bI .nil pass0 (pa_cons (pv 0) pa_nil)) (pe_one (pe_cmpR op_ge (pv 0) pe_int (nomark _)))))) pss_nil)
    (pss_one (ps_ret (pe_call GN hr (by rfl) gN kN bN .nil pass0 (pa_cons (pv 0) pa_nil)))))), ?_⟩
  have ne : ∀ {z : Str}, decide (V.str kd = V.str z) = false → ¬ kd = z := fun h e => of_decide_eq_false h (by rw [e])
  have ye : ∀ {z : Str}, decide (V.str kd = V.str z) = true → kd = z := fun h => V.str.inj (of_decide_eq_true h)
  refine q_when (et_test (ev_op (ev_var rfl) ev_c (rv_eq rfl))) (fun hb H1 e1 => ?_) (fun hb H1 e1 => ?_)
  · refine s_ret (ev_call (ea_cons (ev_var rfl) ea_nil) (spv_D (Dt.ex e1 hd) hs)) fun H2 e2 => ?_
    have g := q H2 (e1.trans e2)
    unfold isItem at g
    rw [if_pos (ye hb)] at g
    exact g
  refine q_when (et_test (ev_op (ev_var rfl) ev_c (rv_eq rfl))) (fun hb2 H2 e2 => ?_) (fun hb2 H2 e2 => ?_)
  · refine s_ret (ev_call (ea_cons (ev_var rfl) ea_nil) (spv_D (Dt.ex (e1.trans e2) hd) hs)) fun H3 e3 => ?_
    have g := q H3 ((e1.trans e2).trans e3)
    unfold isItem at g
    rw [if_neg (ne hb), if_pos (ye hb2)] at g
    exact g
  refine q_when (et_test (ev_op (ev_var rfl) ev_c (rv_eq rfl))) (fun hb3 H3 e3 => ?_) (fun hb3 H3 e3 => ?_)
  · have hd3 := Dt.ex ((e1.trans e2).trans e3) hd
    refine s_ret (v := .bl (isInteger d && atLeast 1 d)) (ev_andV (ev_call (ea_cons (ev_var rfl) ea_nil) (spv_D hd3 hs)) fun hi => ?_) fun H4 e4 => ?_
    · cases hd3 with
      | int i => exact ev_op (ev_var rfl) ev_c rv_I0
      | _ => exact absurd hi (by first | decide | (revert hi; simp [isInteger, isT, isTs, tyT]))
    · have g := q H4 (((e1.trans e2).trans e3).trans e4)
      unfold isItem at g
      rw [if_neg (ne hb), if_neg (ne hb2), if_pos (ye hb3)] at g
      exact g
  · refine s_ret (ev_call (ea_cons (ev_var rfl) ea_nil) (spv_D (Dt.ex ((e1.trans e2).trans e3) hd) hs)) fun H4 e4 => ?_
    have g := q H4 (((e1.trans e2).trans e3).trans e4)
    unfold isItem at g
    rw [if_neg (ne hb), if_neg (ne hb2), if_neg (ne hb3)] at g
    exact g
end
end Cr
namespace Cr
open PySem PySem.Spec PyProof.Rows L2 Evl
section
variable {K : PySem.W.Frag} {H : Hp}
def rNotKd (K : PySem.W.Frag) (d : Addr) : R2 := fun x y H Q => ∃ (z : Str) (r : Option Value), x = .str z ∧ y = .ref d ∧ PySem.W.nsIn K d z = some r ∧ Q (.bl (!r.isSome)) H
theorem op_notKd {X : Cx} {d : Addr} {es : Array DictEntry} {n : Nat} (D : KDict X.K X.w d es n) : OpR X (compareOp .NotIn) (rNotKd X.K d) := op_notIn_kd D
theorem dt_tup {a : Addr} {ds : List PyData} (h : Dt H (.ref a) (.tuple ds)) : ∃ xs, H a = some (.tup xs) ∧ DtAll H xs ds := by
  cases h with
  | tup h t => exact ⟨_, h, t⟩
/-- a pair is taken apart -/
theorem pair_go {K : PySem.W.Frag} {σ : L2.St} {H : Hp} {T : Addr} {x y : V} {i j : Nat} {R : L2.St → Hp → Prop} (h : H T = some (.tup [x, y])) (r : R ((σ.set i (some x)).set j (some y)) H) :
    gTup K 2 (gCons (gName i) (gCons (gName j) gNil)) (.ref T) σ H R := ⟨T, [x, y], rfl, .inl (.inl h), rfl, x, [y], rfl, y, [], rfl, rfl, r⟩
end
section
variable {P : Program} {w : World} {K : PySem.W.Frag} {mg : Str → Option Value} {base : Heap}
theorem ok_isStep {f fT dS : Addr} {fd fdT : FuncData} {k n : Nat} {es : Array DictEntry} (F : Fun K "is_step" "is_step" sIsStep f fd) (B : Blt mg) (gS : mg "SHAPES" = some (.ref dS)) (S : Shapes K w dS es n)
    (GT : FnOk P w K mg base CX0 k fT fdT ["value", "kind"] spItem) (bT : Binds K fdT ["value", "kind"] []) (kT : PySem.W.keepIn K (.ref fT) = true) (gT : mg "is_item" = some (.ref fT)) :
    FnOk P w K mg base CX0 (k + 1) f fd ["value"] (spD isStep) := by
  refine F.ok scIsStep spD_len (fun cdv A outer s H vs Q E hr h => ?_)
  obtain ⟨v, d, rfl, hd, hs, q⟩ := h
  refine ⟨_, pss_cons (ps_if (PW.pt (pw_or (pt_not (pt_val (pe_callB call_isi (by rfl) B.isi bIsi (pa_cons (pv 0) (pa_cons (pe_bltn (v := .ty "tuple") (by rfl) B.tuple bTuple rfl) pa_nil)))))
      (pw_or1 (pt_cmpR op_eq (pe_callB call_len_seq (by rfl) B.len bLen (pa_cons (pv 0) pa_nil)) pe_int (nomark _))))) (pss_one (ps_ret pe_bl)) pss_nil)
    (pss_cons (ps_if (PW.pt (pw_or (pt_not (pt_val (pe_callB call_isi (by rfl) B.isi bIsi (pa_cons (pe_ix ix_tup (pv 0) pe_int (fun _ _ => rfl)) (pa_cons (pe_bltn (v := .ty "str") (by rfl) B.str bStr rfl) pa_nil)))))
      (pw_or1 (pt_cmpR (op_notKd S.kd) (pe_ix ix_tup (pv 0) pe_int (fun _ _ => rfl)) (pe_glob (v := .ref dS) (by rfl) gS rfl) (by rfl))))) (pss_one (ps_ret pe_bl)) pss_nil)
    (pss_cons (ps_set (i := 1) scIsStep.nd rfl (.inl rfl) (pe_ix ix_kdict (pe_glob (v := .ref dS) (by rfl) gS rfl) (pe_ix ix_tup (pv 0) pe_int (fun _ _ => rfl)) (fun _ _ => rfl)))
    (pss_cons (ps_if (pt_cmpR op_ne (pe_callB call_len_seq (by rfl) B.len bLen (pa_cons (pv 0) pa_nil)) (pe_op op_add (pe_callB call_len_seq (by rfl) B.len bLen (pa_cons (pv 1) pa_nil)) pe_int) (nomark _)) (pss_one (ps_ret pe_bl)) pss_nil)
    (pss_one (ps_ret (pe_callB (cr_all rfl) (by rfl) B.all bAll (pa_cons
      (pe_lc (own := [("item", 2), ("kind", 3)]) (g := gTup K 2 (gCons (gName 2) (gCons (gName 3) gNil))) (tt := tYes) rfl scIsStep.nd (RZ.pi_zipA (by rfl) B.zip (pa_cons (pe_slice sl_tup (pv 0) (po_some pe_int) po_none) (pa_cons (pv 1) pa_nil))) (blkOk_by (own := [("item", 2), ("kind", 3)]) (N := ["value", "shape", "item", "kind"]) (sc := defScope sIsStep) (by decide +kernel))
        (fun _ _ _ _ _ => by exact pg_tup rfl (pgs_cons (pg_name (i := 2) scIsStep.nd rfl (Or.inl rfl)) (pgs_cons (pg_name (i := 3) scIsStep.nd rfl (Or.inl rfl)) pgs_nil))) (fun _ _ _ _ _ => pts_nil)
        (fun _ _ _ _ _ => pe_call GT hr (by rfl) gT kT bT .nil pass0 (pa_cons (pv 2) (pa_cons (pv 3) pa_nil)))) pa_nil))))))), ?_⟩
  have isS := rc_isi (K := K) hd memT
  by_cases ht : ∃ ds, d = .tuple ds
  · obtain ⟨ds, rfl⟩ := ht
    have ha : ∃ a, v = .ref a := by cases hd; exact ⟨_, rfl⟩
    obtain ⟨a, rfl⟩ := ha
    obtain ⟨xs, hx, hds⟩ := dt_tup hd
    have len := hds.length
    refine q_when (et_or (et_not (et_B (ev_cb (ea_cons (ev_var rfl) (ea_cons ev_c ea_nil)) isS))) fun _ => et_test (ev_op (ev_cb (ea_cons (ev_var rfl) ea_nil) (rc_lenT (st_of hx))) ev_c (rv_eq rfl))) (fun hb H1 e1 => ?_) (fun hb H1 e1 => ?_)
    · refine s_ret ev_c fun H2 e2 => ?_
      have hb' : (!(isT "tuple" (.tuple ds)) || decide (V.int (xs.length : Int) = V.int 0)) = true := hb
      have e : isT "tuple" (.tuple ds) = true := rfl
      rw [e, Bool.not_true, Bool.false_or] at hb'
      have z := V.int.inj (of_decide_eq_true hb')
      have g := q H2 (e1.trans e2)
      cases ds with
      | nil => exact g
      | cons y r => rw [len, List.length_cons] at z; omega
    have hb' : (!(isT "tuple" (.tuple ds)) || decide (V.int (xs.length : Int) = V.int 0)) = false := hb
    have e : isT "tuple" (.tuple ds) = true := rfl
    rw [e, Bool.not_true, Bool.false_or] at hb'
    have nz := of_decide_eq_false hb'
    cases hds with
    | nil => exact absurd rfl nz
    | @cons v0 xs' d0 ds' h0 hr' =>
    have ix0 : ∀ {H' : Hp}, Ex H H' → ∀ {σ : L2.St}, σ[0]? = some (some (.ref a)) → Ev (tOp (rIxT K) (tVar 0) (tC (.int 0))) σ H' v0 := fun e0 σ hσ => ev_op (ev_var hσ) ev_c (rv_ixT (st_of (e0 _ _ hx)) (atI_nat (j := 0) rfl))
    have h01 := Dt.ex e1 h0
    have isS0 := rc_isi (K := K) h01 memS
    by_cases hstr : ∃ z, d0 = .str z
    · obtain ⟨z, rfl⟩ := hstr
      cases h0
      cases hsh : shapeOf z with
      | none =>
        refine q_when (b := true) (et_is (et_or (et_not (et_B (ev_cb (ea_cons (ix0 e1 rfl) (ea_cons ev_c ea_nil)) isS0))) (b := true) fun _ => et_test (ev_op (ix0 e1 rfl) ev_c (rv_val fun H2 _ Q q => ⟨z, none, rfl, rfl, S.no z hsh, q⟩))) (Bool.or_true _)) (fun _ H2 e2 => s_ret ev_c fun H3 e3 => ?_) (fun z => absurd z (by decide))
        have g := q H3 ((e1.trans e2).trans e3)
        have zz : isStep (.tuple (.str z :: ds')) = false := by
          show (match shapeOf z with | some ks => _ | none => false) = false
          rw [hsh]
        rw [zz] at g
        exact g
      | some ks =>
        obtain ⟨aS, n1, tS⟩ := S.yes z ks hsh
        refine q_when (b := false) (et_is (et_or (et_not (et_B (ev_cb (ea_cons (ix0 e1 rfl) (ea_cons ev_c ea_nil)) isS0))) (b := false) fun _ => et_test (ev_op (ix0 e1 rfl) ev_c (rv_val fun H2 _ Q q => ⟨z, some (.ref aS), rfl, rfl, n1, q⟩))) rfl) (fun z => absurd z (by decide)) (fun _ H2 e2 => ?_)
        have e12 := e1.trans e2
        refine q_asg (v := .ref aS) (ev_op ev_c (ix0 e12 rfl) (rv_val fun H3 _ Q q => ⟨dS, z, .ref aS, rfl, rfl, ⟨es, n, .ref aS, S.kd.at_, S.kd.lit, n1, rfl⟩, q⟩)) fun H3 e3 => ?_
        have e13 := e12.trans e3
        have lk : (ks.map V.str).length = ks.length := List.length_map ..
        have zz : isStep (.tuple (.str z :: ds')) = (decide (ds'.length = ks.length) && stepItems ds' ks) := by
          show (match shapeOf z with | some ks => (decide (ds'.length = ks.length) && stepItems ds' ks) | none => false) = _
          rw [hsh]
        have lx := hr'.length
        refine q_when (b := !decide (ds'.length = ks.length)) (et_is (et_test (ev_op (ev_cb (ea_cons (ev_var rfl) ea_nil) (rc_lenT (st_of (e13 _ _ hx)))) (ev_op (ev_cb (ea_cons (ev_var rfl) ea_nil) (rc_lenT tS.sq)) ev_c rv_I0) (rv_ne rfl))) ?_) (fun hb2 H4 e4 => s_ret ev_c fun H5 e5 => ?_) (fun hb2 H4 e4 => ?_)
        · show (!decide (V.int (((V.str z :: xs').length : Nat) : Int) = V.int (((ks.map V.str).length : Nat) + 1 : Int))) = _
          congr 1
          rw [lk, List.length_cons]
          by_cases hh : ds'.length = ks.length
          · rw [decide_eq_true hh, decide_eq_true]
            rw [lx, hh]; rfl
          · rw [decide_eq_false hh, decide_eq_false]
            intro hz
            have := V.int.inj hz
            omega
        · have g := q H5 ((e13.trans e4).trans e5)
          rw [zz] at g
          rw [Bool.not_eq_true'] at hb2
          rw [hb2, Bool.false_and] at g
          exact g
        · rw [Bool.not_eq_false'] at hb2
          have hh := of_decide_eq_true hb2
          have e14 := e13.trans e4
          have hn : ks.length ≤ 1000 := by
            rw [sm, Bool.and_eq_true] at hs
            have := of_decide_eq_true hs.1
            rw [List.length_cons] at this
            omega
          have hsd : smAll ds' = true := by
            rw [sm, Bool.and_eq_true, smAll, Bool.and_eq_true] at hs
            exact hs.2.2
          have lc := el_lcW (wi := RZ.iZipA K (tCons (tSl (rSlT K) (tVar 0) (tPart (tC (.int 1))) tNoPart) (tCons (tVar 1) tNil))) (g := gTup K 2 (gCons (gName 2) (gCons (gName 3) gNil))) (tt := tYes) (te := tCall spItem [] E0 (tCons (tVar 2) (tCons (tVar 3) tNil))) (vs := [2, 3])
            (σ := [some (.ref a), some (.ref aS), none, none]) (H := H4) (n := ks.length) (Y := YPair (fun i => xs'[i]?) fun i => (ks.map V.str)[i]?) (fun _ => true) (fun i => .bl (isItem (ds'.getD i .none) (ks.getD i ""))) (by omega)
            (fun H5 e5 R r => by
              refine eu_tail (ev_var rfl) (st_of ((e14.trans e5) _ _ hx)) H5 (Ex.refl H5) _ fun p H6 hp e6 h6 => ?_
              refine ⟨.ref aS, rfl, p, aS, xs', ks.map V.str, rfl, .inr ⟨st_of h6, tS.sq, r H6 _ _ (walk_zipT (xs := xs') (ys := ks.map V.str) (by rw [lk]; omega)) (fun H7 H8 e7 z => ⟨ex_t e7 z.1, ex_t e7 z.2⟩) e6 ⟨st_of h6, tS.sq⟩⟩⟩)
            (fun i y H5 H6 e5 hi hy => by
              obtain ⟨T, x1, y1, rfl, hT, rfl, hx1, hy1⟩ := hy
              obtain ⟨d1, hd1, dd1⟩ := hr'.get hx1
              have hk1 : ks[i]? = some (ks.getD i "") := by
                rw [List.getElem?_eq_getElem hi]
                simp [List.getD, List.getElem?_eq_getElem hi]
              have ey : y1 = V.str (ks.getD i "") := by
                have hy2 : (ks.map V.str)[i]? = some y1 := hy1
                rw [List.getElem?_map, hk1] at hy2
                exact (Option.some.inj hy2).symm
              have ed : ds'.getD i .none = d1 := by rw [List.getD, hd1]; rfl
              subst ey
              refine ⟨Ex.new hT, [some (.ref a), some (.ref aS), some x1, some (.str (ks.getD i ""))], rfl, fun R r => pair_go upd_same r, fun H7 _ Q q => q H7 (Ex.refl H7), fun _ => ?_⟩
              rw [ed]
              refine ev_call (ea_cons (ev_var rfl) (ea_cons (ev_var rfl) ea_nil)) fun H7 e7 Q q E => ⟨x1, d1, ks.getD i "", rfl, Dt.ex (((e14.trans e5).trans (Ex.new hT)).trans e7) dd1, smAll_get hsd hd1, q⟩)
          have eg : given ks.length (fun _ => true) (fun i => V.bl (isItem (ds'.getD i .none) (ks.getD i ""))) = ((List.range ks.length).map fun i => isItem (ds'.getD i .none) (ks.getD i "")).map V.bl := by
            rw [given_all, List.map_map]; rfl
          rw [eg] at lc
          refine s_ret (ev_all lc) fun H5 e5 => ?_
          have g := q H5 (e14.trans e5)
          rw [zz, decide_eq_true hh, Bool.true_and] at g
          exact g
    · have ns : isT "str" d0 = false := by
        cases d0 with
        | str z => exact absurd ⟨z, rfl⟩ hstr
        | _ => rfl
      refine q_when (b := true) (et_is (et_or (et_not (et_B (ev_cb (ea_cons (ix0 e1 rfl) (ea_cons ev_c ea_nil)) isS0))) (b := true) fun z => absurd z (by rw [ns]; decide)) (Bool.or_true _)) (fun _ H2 e2 => s_ret ev_c fun H3 e3 => ?_) (fun z => absurd z (by decide))
      have g := q H3 ((e1.trans e2).trans e3)
      cases d0 with
      | str z => exact absurd ⟨z, rfl⟩ hstr
      | _ => exact g
  · have nt : isT "tuple" d = false := by
      cases d with
      | tuple ds => exact absurd ⟨ds, rfl⟩ ht
      | _ => rfl
    refine q_when (b := true) (et_is (et_or (et_not (et_B (ev_cb (ea_cons (ev_var rfl) (ea_cons ev_c ea_nil)) isS))) (b := true) fun z => absurd z (by rw [nt]; decide)) (Bool.or_true _)) (fun _ H1 e1 => s_ret ev_c fun H2 e2 => ?_) (fun z => absurd z (by decide))
    have g := q H2 (e1.trans e2)
    cases d with
    | tuple ds => exact absurd ⟨ds, rfl⟩ ht
    | _ => exact g

end
end Cr
namespace Cr
open PySem PySem.Spec PyProof.Rows L2 Evl
theorem int_text {i : Int} (h : i.natAbs.log2 < 1000) : (Str.ofString (toString i)).length ≤ 1001 := by
  have e := int_text_length_le (k := 1000) (by decide) h
  rw [PySem.ofString_length]
  omega
theorem len_add (a b : Str) : (a ++ b).length = a.length + b.length := by
  show (a.cps ++ b.cps).size = _
  rw [Array.size_append]
  rfl
/-! ### flat values -/
def flD : V → PyData
  | .bl b => .bool b
  | .int i => .int i
  | .str x => .str x
  | _ => .none
theorem dt_flat {H : Hp} {v : V} (h : flatV v = true) : Dt H v (flD v) := by
  cases v with
  | non => exact .non
  | bl b => exact .bl b
  | int i => exact .int i
  | str x => exact .str x
  | _ => exact absurd h (fun z => nomatch z)
theorem dtAll_flat {H : Hp} : ∀ {xs : List V}, xs.all flatV = true → DtAll H xs (xs.map flD)
  | [], _ => .nil
  | x :: r, h => by
    rw [List.all_cons, Bool.and_eq_true] at h
    exact .cons (dt_flat h.1) (dtAll_flat h.2)
def leafOk : V → Bool
  | .non => true
  | .bl _ => true
  | .int i => decide (i.natAbs ≤ 10 ^ 30)
  | .str x => decide (x.length ≤ 9) && x.cps.toList.all fun c => decide (c < 128)
  | _ => false
theorem leaf_flat {v : V} (h : leafOk v = true) : flatV v = true := by
  cases v <;> first | rfl | exact absurd h (fun z => nomatch z)
theorem leaf_name {x : Str} (h : isNameS x = true) : leafOk (.str x) = true := by
  unfold isNameS at h
  simp only [Bool.and_eq_true, decide_eq_true_eq] at h
  show (decide (x.length ≤ 9) && x.cps.toList.all fun c => decide (c < 128)) = true
  rw [decide_eq_true (show x.length ≤ 9 by omega), Bool.true_and]
  refine List.all_eq_true.mpr fun c hc => ?_
  have z := List.all_eq_true.mp h.2 c hc
  unfold isLow at z
  simp only [Bool.and_eq_true, decide_eq_true_eq] at z
  exact decide_eq_true (by omega)
theorem var_cases {x : Str} (h : isVar (.str x) = true) : x = "a" ∨ x = "b" ∨ x = "c" ∨ x = "d" := by
  have z : (vars4.any fun y => y == x) = true := h
  simp only [vars4, List.any_cons, List.any_nil, Bool.or_false, Bool.or_eq_true, beq_iff_eq] at z
  rcases z with z | z | z | z
  · exact .inl z.symm
  · exact .inr (.inl z.symm)
  · exact .inr (.inr (.inl z.symm))
  · exact .inr (.inr (.inr z.symm))
theorem leaf_var {x : Str} (h : isVar (.str x) = true) : leafOk (.str x) = true := by
  rcases var_cases h with rfl | rfl | rfl | rfl <;> decide +kernel
theorem var_of {c : Nat} (h : c ∈ (("abcd" : Str)).cps.toList) : isVar (.str ⟨#[c]⟩) = true := by
  have e : (("abcd" : Str)).cps.toList = [97, 98, 99, 100] := by decide +kernel
  rw [e] at h
  simp only [List.mem_cons, List.not_mem_nil, or_false] at h
  rcases h with rfl | rfl | rfl | rfl <;> decide +kernel
/-! ### the steps -/
theorem isStep_eq {z : Str} {ks : List Str} {ds : List PyData} (h : shapeOf z = some ks) : isStep (.tuple (.str z :: ds)) = (decide (ds.length = ks.length) && stepItems ds ks) := by
  show (match shapeOf z with | some ks => (decide (ds.length = ks.length) && stepItems ds ks) | none => false) = _
  rw [h]
theorem it_var (d : PyData) : isItem d "variable" = isVar d := if_pos rfl
theorem it_int (d : PyData) : isItem d "integer" = isInteger d := by
  unfold isItem
  rw [if_neg (by decide +kernel), if_pos rfl]
theorem it_len (d : PyData) : isItem d "length" = (isInteger d && atLeast 1 d) := by
  unfold isItem
  rw [if_neg (by decide +kernel), if_neg (by decide +kernel), if_pos rfl]
theorem it_name (d : PyData) : isItem d "name" = isName d := by
  unfold isItem
  rw [if_neg (by decide +kernel), if_neg (by decide +kernel), if_neg (by decide +kernel)]
theorem it_mod (d : PyData) : isItem d "module" = isName d := by
  unfold isItem
  rw [if_neg (by decide +kernel), if_neg (by decide +kernel), if_neg (by decide +kernel)]
theorem items1 (d : PyData) (k : Str) : stepItems [d] [k] = isItem d k := by
  show (isItem d k && true) = _
  rw [Bool.and_true]
theorem items2 (d d' : PyData) (k k' : Str) : stepItems [d, d'] [k, k'] = (isItem d k && isItem d' k') := by
  show (isItem d k && (isItem d' k' && true)) = _
  rw [Bool.and_true]
theorem items3 (d d' d'' : PyData) (k k' k'' : Str) : stepItems [d, d', d''] [k, k', k''] = (isItem d k && (isItem d' k' && isItem d'' k'')) := by
  show (isItem d k && (isItem d' k' && (isItem d'' k'' && true))) = _
  rw [Bool.and_true]
theorem sh_set : shapeOf "set" = some (["variable", "integer"] : List Str) := by decide +kernel
theorem sh_add : shapeOf "add" = some (["variable", "variable"] : List Str) := by decide +kernel
theorem sh_skip : shapeOf "skip" = some (["variable", "length"] : List Str) := by decide +kernel
theorem sh_export : shapeOf "export" = some (["name", "variable"] : List Str) := by decide +kernel
theorem sh_read : shapeOf "read" = some (["variable", "module", "name"] : List Str) := by decide +kernel
theorem sh_need : shapeOf "need" = some (["module"] : List Str) := by decide +kernel
theorem sh_try : shapeOf "try" = some (["module", "variable"] : List Str) := by decide +kernel
theorem sh_fail : shapeOf "fail" = some ([] : List Str) := by decide +kernel
structure StepOk (xs : List V) : Prop where
  leaf : xs.all leafOk = true
  one : 1 ≤ xs.length
  four : xs.length ≤ 4
  step : isStep (.tuple (xs.map flD)) = true
theorem StepOk.flat {xs : List V} (h : StepOk xs) : xs.all flatV = true := List.all_eq_true.mpr fun v hv => leaf_flat (List.all_eq_true.mp h.leaf v hv)
theorem kinds_leaf : ∀ z ∈ (["set", "add", "skip", "export", "read", "need", "try", "fail"] : List Str), leafOk (.str z) = true := by decide +kernel
theorem st_set {x : Str} {n : Int} (hx : isVar (.str x) = true) (hn : n.natAbs ≤ 10 ^ 30) : StepOk [.str "set", .str x, .int n] where
  leaf := by
    rw [List.all_cons, List.all_cons, List.all_cons, kinds_leaf "set" (by decide +kernel), leaf_var hx]
    show (true && (true && (decide (n.natAbs ≤ 10 ^ 30) && true))) = true
    rw [decide_eq_true hn]
    rfl
  one := by show 1 ≤ 3; decide
  four := by show 3 ≤ 4; decide
  step := by
    rw [show ([V.str "set", V.str x, V.int n].map flD) = [.str "set", .str x, .int n] from rfl, isStep_eq sh_set, items2, it_var, it_int, hx]
    rfl
theorem st_add {x y : Str} (hx : isVar (.str x) = true) (hy : isVar (.str y) = true) : StepOk [.str "add", .str x, .str y] where
  leaf := by
    rw [List.all_cons, List.all_cons, List.all_cons, kinds_leaf "add" (by decide +kernel), leaf_var hx, leaf_var hy]
    rfl
  one := by show 1 ≤ 3; decide
  four := by show 3 ≤ 4; decide
  step := by
    rw [show ([V.str "add", V.str x, V.str y].map flD) = [.str "add", .str x, .str y] from rfl, isStep_eq sh_add, items2, it_var, it_var, hx, hy]
    rfl
theorem st_skip {x : Str} {n : Int} (hx : isVar (.str x) = true) (h1 : 1 ≤ n) (hn : n.natAbs ≤ 10 ^ 30) : StepOk [.str "skip", .str x, .int n] where
  leaf := by
    rw [List.all_cons, List.all_cons, List.all_cons, kinds_leaf "skip" (by decide +kernel), leaf_var hx]
    show (true && (true && (decide (n.natAbs ≤ 10 ^ 30) && true))) = true
    rw [decide_eq_true hn]
    rfl
  one := by show 1 ≤ 3; decide
  four := by show 3 ≤ 4; decide
  step := by
    rw [show ([V.str "skip", V.str x, V.int n].map flD) = [.str "skip", .str x, .int n] from rfl, isStep_eq sh_skip, items2, it_var, it_len, hx]
    show (decide (2 = 2) && (true && (isInteger (.int n) && decide (1 ≤ n)))) = true
    rw [decide_eq_true h1]
    rfl
theorem st_need {m : Str} (hm : isNameS m = true) : StepOk [.str "need", .str m] where
  leaf := by
    rw [List.all_cons, List.all_cons, kinds_leaf "need" (by decide +kernel), leaf_name hm]
    rfl
  one := by show 1 ≤ 2; decide
  four := by show 2 ≤ 4; decide
  step := by
    rw [show ([V.str "need", V.str m].map flD) = [.str "need", .str m] from rfl, isStep_eq sh_need, items1, it_mod]
    exact hm
theorem st_export {m x : Str} (hm : isNameS m = true) (hx : isVar (.str x) = true) : StepOk [.str "export", .str m, .str x] where
  leaf := by
    rw [List.all_cons, List.all_cons, List.all_cons, kinds_leaf "export" (by decide +kernel), leaf_name hm, leaf_var hx]
    rfl
  one := by show 1 ≤ 3; decide
  four := by show 3 ≤ 4; decide
  step := by
    rw [show ([V.str "export", V.str m, V.str x].map flD) = [.str "export", .str m, .str x] from rfl, isStep_eq sh_export, items2, it_name, it_var, hx, show isName (.str m) = true from hm]
    rfl
theorem st_try {m x : Str} (hm : isNameS m = true) (hx : isVar (.str x) = true) : StepOk [.str "try", .str m, .str x] where
  leaf := by
    rw [List.all_cons, List.all_cons, List.all_cons, kinds_leaf "try" (by decide +kernel), leaf_name hm, leaf_var hx]
    rfl
  one := by show 1 ≤ 3; decide
  four := by show 3 ≤ 4; decide
  step := by
    rw [show ([V.str "try", V.str m, V.str x].map flD) = [.str "try", .str m, .str x] from rfl, isStep_eq sh_try, items2, it_mod, it_var, hx, show isName (.str m) = true from hm]
    rfl
theorem st_read {x m n : Str} (hx : isVar (.str x) = true) (hm : isNameS m = true) (hn : isNameS n = true) : StepOk [.str "read", .str x, .str m, .str n] where
  leaf := by
    rw [List.all_cons, List.all_cons, List.all_cons, List.all_cons, kinds_leaf "read" (by decide +kernel), leaf_name hm, leaf_name hn, leaf_var hx]
    rfl
  one := by show 1 ≤ 4; decide
  four := by show 4 ≤ 4; decide
  step := by
    rw [show ([V.str "read", V.str x, V.str m, V.str n].map flD) = [.str "read", .str x, .str m, .str n] from rfl, isStep_eq sh_read, items3, it_var, it_mod, it_name, hx, show isName (.str m) = true from hm, show isName (.str n) = true from hn]
    rfl
theorem st_fail : StepOk [.str "fail"] where
  leaf := by rw [List.all_cons, kinds_leaf "fail" (by decide +kernel)]; rfl
  one := by show 1 ≤ 1; decide
  four := by show 1 ≤ 4; decide
  step := by
    rw [show ([V.str "fail"].map flD) = [.str "fail"] from rfl, isStep_eq sh_fail]
    rfl

/-- one step over drawn names -/
def skipLen : PyData → Option Int
  | .tuple (.str z :: _ :: .int i :: _) => if z = "skip" then some i else none
  | _ => none
def skipOk (n : Int) (d : PyData) : Bool :=
  match skipLen d with
  | some i => decide (i ≤ n)
  | none => true
def isBefore (d : PyData) (n : Int) : Bool := isStep d && skipOk n d
def isExport : PyData → Bool
  | .tuple (.str z :: _) => z == "export"
  | _ => false
/-- what a step is -/
theorem step_form {d : PyData} (h : isStep d = true) : ∃ z ds, d = .tuple (.str z :: ds) := by
  cases d with
  | tuple ds =>
    cases ds with
    | nil => exact nomatch h
    | cons d0 ds =>
      cases d0 with
      | str z => exact ⟨z, ds, rfl⟩
      | _ => exact nomatch h
  | _ => exact nomatch h
theorem skip_form {ds : List PyData} (h : isStep (.tuple (.str "skip" :: ds)) = true) : ∃ x i, ds = [x, .int i] := by
  rw [isStep_eq sh_skip] at h
  obtain ⟨h1, h2⟩ := Bool.and_eq_true_iff.mp h
  have hl : ds.length = 2 := of_decide_eq_true h1
  match ds, hl with
  | [x, y], _ =>
    rw [items2, it_len] at h2
    obtain ⟨_, h3⟩ := Bool.and_eq_true_iff.mp h2
    obtain ⟨h4, _⟩ := Bool.and_eq_true_iff.mp h3
    cases y with
    | int i => exact ⟨x, i, rfl⟩
    | _ => exact nomatch h4
/-- the spot of a module in a step -/
def spotOf (z : Str) : Option Nat := if z = "need" then some 1 else if z = "try" then some 1 else if z = "read" then some 2 else none
def strOf : PyData → Option Str
  | .str x => some x
  | _ => none
/-- the module of a step -/
def modO : PyData → Option Str
  | .tuple (.str z :: ds) => (spotOf z).bind fun i => strOf ((PyData.str z :: ds).getD i .none)
  | _ => none
/-- a step with a spot has a name there -/
theorem spot_name {z : Str} {ds : List PyData} {i : Nat} (h : isStep (.tuple (.str z :: ds)) = true) (hs : spotOf z = some i) : ∃ m, (PyData.str z :: ds)[i]? = some (.str m) ∧ isNameS m = true := by
  have nm : ∀ {d : PyData}, isName d = true → ∃ m, d = .str m ∧ isNameS m = true := fun {d} hd => by
    cases d with
    | str m => exact ⟨m, rfl, hd⟩
    | _ => exact nomatch hd
  unfold spotOf at hs
  by_cases h1 : z = "need"
  · subst h1
    rw [if_pos rfl] at hs
    cases hs
    rw [isStep_eq sh_need] at h
    obtain ⟨a1, a2⟩ := Bool.and_eq_true_iff.mp h
    match ds, of_decide_eq_true a1 with
    | [x], _ =>
      rw [items1, it_mod] at a2
      obtain ⟨m, rfl, hm⟩ := nm a2
      exact ⟨m, rfl, hm⟩
  rw [if_neg h1] at hs
  by_cases h2 : z = "try"
  · subst h2
    rw [if_pos rfl] at hs
    cases hs
    rw [isStep_eq sh_try] at h
    obtain ⟨a1, a2⟩ := Bool.and_eq_true_iff.mp h
    match ds, of_decide_eq_true a1 with
    | [x, y], _ =>
      rw [items2, it_mod] at a2
      obtain ⟨m, rfl, hm⟩ := nm (Bool.and_eq_true_iff.mp a2).1
      exact ⟨m, rfl, hm⟩
  rw [if_neg h2] at hs
  by_cases h3 : z = "read"
  · subst h3
    rw [if_pos rfl] at hs
    cases hs
    rw [isStep_eq sh_read] at h
    obtain ⟨a1, a2⟩ := Bool.and_eq_true_iff.mp h
    match ds, of_decide_eq_true a1 with
    | [x, y, u], _ =>
      rw [items3, it_mod] at a2
      obtain ⟨m, rfl, hm⟩ := nm (Bool.and_eq_true_iff.mp (Bool.and_eq_true_iff.mp a2).2).1
      exact ⟨m, rfl, hm⟩
  rw [if_neg h3] at hs
  cases hs
theorem modO_some {z : Str} {ds : List PyData} {i : Nat} {m : Str} (hs : spotOf z = some i) (hm : (PyData.str z :: ds)[i]? = some (.str m)) : modO (.tuple (.str z :: ds)) = some m := by
  show (spotOf z).bind _ = some m
  rw [hs, Option.bind_some, List.getD_eq_getElem?_getD, hm]
  rfl
theorem modO_none {z : Str} {ds : List PyData} (hs : spotOf z = none) : modO (.tuple (.str z :: ds)) = none := by
  show (spotOf z).bind _ = none
  rw [hs]
  rfl
theorem modO_name {d : PyData} {m : Str} (h : isStep d = true) (hm : modO d = some m) : isNameS m = true := by
  obtain ⟨z, ds, rfl⟩ := step_form h
  cases hs : spotOf z with
  | none => rw [modO_none hs] at hm; cases hm
  | some i =>
    obtain ⟨m', h1, h2⟩ := spot_name h hs
    rw [modO_some hs h1] at hm
    cases hm
    exact h2
abbrev sSM : Stmt := topS 18
abbrev nSM : List Str := ["step", "item", "kind"]
theorem scSM : FnScope nSM ["step"] (defScope sSM) := ⟨rfl, rfl, rfl, by decide +kernel, rfl, by decide +kernel, by decide +kernel⟩
def spSM : Sp := fun vs H Q _ => ∃ v d, vs = [v] ∧ Dt H v d ∧ sm d = true ∧ isStep d = true ∧ ∀ T H', H T = none → Ex H H' → H' T = some (.lst ((modO d).toList.map V.str)) → Q (.ref T) H'
/-- where the modules stand -/
def isM (ks : List Str) (i : Nat) : Bool := decide (V.str (ks.getD i "") = V.str "module")
theorem mods_given {z : Str} {ks : List Str} {ds : List PyData} {xs : List V} {H : Hp} (hsh : shapeOf z = some ks) (h : isStep (.tuple (.str z :: ds)) = true) (hd : DtAll H xs ds) :
    given ks.length (isM ks) (fun i => xs.getD i .non) = (modO (.tuple (.str z :: ds))).toList.map V.str := by
  have lx := hd.length
  have hl : ds.length = ks.length := by
    rw [isStep_eq hsh] at h
    exact of_decide_eq_true (Bool.and_eq_true_iff.mp h).1
  have none_ : spotOf z = none → (List.range ks.length).filter (isM ks) = [] → given ks.length (isM ks) (fun i => xs.getD i .non) = (modO (.tuple (.str z :: ds))).toList.map V.str := fun h1 h2 => by
    unfold given
    rw [h2, modO_none h1]
    rfl
  have some_ : ∀ j, spotOf z = some (j + 1) → (List.range ks.length).filter (isM ks) = [j] → given ks.length (isM ks) (fun i => xs.getD i .non) = (modO (.tuple (.str z :: ds))).toList.map V.str := fun j h1 h2 => by
    obtain ⟨m, hm, _⟩ := spot_name h h1
    unfold given
    rw [h2, modO_some h1 hm]
    have hm' : ds[j]? = some (.str m) := hm
    have hj : j < ds.length := (List.getElem?_eq_some_iff.mp hm').1
    have hx : xs[j]? = some (xs.getD j .non) := by
      rw [List.getD_eq_getElem?_getD, List.getElem?_eq_getElem (by omega)]
      rfl
    obtain ⟨d', h3, h4⟩ := DtAll.get hd hx
    rw [hm'] at h3
    cases h3
    show [xs.getD j .non] = [V.str m]
    generalize xs.getD j .non = u at h4 ⊢
    cases h4
    rfl
  have two : ∀ {z' : Str} {ks' : List Str}, shapeOf z' = some ks' → z = z' → ks = ks' := fun h1 h2 => by
    rw [h2, h1] at hsh
    exact (Option.some.inj hsh).symm
  have cases8 : z = "set" ∨ z = "add" ∨ z = "skip" ∨ z = "export" ∨ z = "read" ∨ z = "need" ∨ z = "try" ∨ z = "fail" := by
    unfold shapeOf at hsh
    repeat' split at hsh
    all_goals first
      | (simp_all; done)
      | cases hsh
  rcases cases8 with e | e | e | e | e | e | e | e
  · have k := two sh_set e
    subst e k
    exact none_ (by decide +kernel) (by decide +kernel)
  · have k := two sh_add e
    subst e k
    exact none_ (by decide +kernel) (by decide +kernel)
  · have k := two sh_skip e
    subst e k
    exact none_ (by decide +kernel) (by decide +kernel)
  · have k := two sh_export e
    subst e k
    exact none_ (by decide +kernel) (by decide +kernel)
  · have k := two sh_read e
    subst e k
    exact some_ 1 (by decide +kernel) (by decide +kernel)
  · have k := two sh_need e
    subst e k
    exact some_ 0 (by decide +kernel) (by decide +kernel)
  · have k := two sh_try e
    subst e k
    exact some_ 0 (by decide +kernel) (by decide +kernel)
  · have k := two sh_fail e
    subst e k
    exact none_ (by decide +kernel) (by decide +kernel)
section
variable {P : Program} {w : World} {K : PySem.W.Frag} {mg : Str → Option Value} {base : Heap}
theorem ok_sm {f dS : Addr} {fd : FuncData} {k n : Nat} {es : Array DictEntry} (F : Fun K "step_modules" "step_modules" sSM f fd) (B : Blt mg) (gS : mg "SHAPES" = some (.ref dS)) (S : Shapes K w dS es n) : FnOk P w K mg base CX0 (k + 1) f fd ["step"] spSM := by
  refine F.ok scSM (fun vs H Q E h => by obtain ⟨_, _, rfl, _⟩ := h; rfl) (fun cdv A outer s H vs Q E hr h => ?_)
  obtain ⟨v, d, rfl, hd, hs, hst, q⟩ := h
  refine ⟨_, pss_one (ps_ret (pe_lc (own := [("item", 1), ("kind", 2)]) (g := gTup K 2 (gCons (gName 1) (gCons (gName 2) gNil))) (tt := tTest (tOp rEq (tVar 2) (tC (.str "module")))) rfl scSM.nd
      (RZ.pi_zipA (by rfl) B.zip (pa_cons (pe_slice sl_tup (pv 0) (po_some pe_int) po_none) (pa_cons (pe_ix ix_kdict (pe_glob (v := .ref dS) (by rfl) gS rfl) (pe_ix ix_tup (pv 0) pe_int (fun _ _ => rfl)) (fun _ _ => rfl)) pa_nil)))
      (blkOk_by (own := [("item", 1), ("kind", 2)]) (N := nSM) (sc := defScope sSM) (by decide +kernel))
      (fun _ _ _ _ _ => by exact pg_tup rfl (pgs_cons (pg_name (i := 1) scSM.nd rfl (Or.inl rfl)) (pgs_cons (pg_name (i := 2) scSM.nd rfl (Or.inl rfl)) pgs_nil))) (fun _ _ _ _ _ => by exact pts_one (pt_cmpR op_eq (pv 2) pe_str (nomark _))) (fun _ _ _ _ _ => pv 1))), ?_⟩
  obtain ⟨z, ds, rfl⟩ := step_form hst
  have ha : ∃ a, v = .ref a := by cases hd; exact ⟨_, rfl⟩
  obtain ⟨a, rfl⟩ := ha
  obtain ⟨ys, hy0, hzs⟩ := dt_tup hd
  have hf : ∃ xs, ys = .str z :: xs ∧ DtAll H xs ds := by
    cases hzs with
    | cons h0 hr0 => cases h0; exact ⟨_, rfl, hr0⟩
  obtain ⟨xs, rfl, hds⟩ := hf
  obtain ⟨ks, hsh⟩ : ∃ ks, shapeOf z = some ks := by
    cases hsh : shapeOf z with
    | some ks => exact ⟨ks, rfl⟩
    | none =>
      have zz : isStep (.tuple (.str z :: ds)) = false := by
        show (match shapeOf z with | some ks => _ | none => false) = false
        rw [hsh]
      rw [zz] at hst
      cases hst
  obtain ⟨aS, n1, tS⟩ := S.yes z ks hsh
  have lx := hds.length
  have hl : ds.length = ks.length := by
    rw [isStep_eq hsh] at hst
    exact of_decide_eq_true (Bool.and_eq_true_iff.mp hst).1
  have l10 : ks.length ≤ 1000 := by
    rw [sm, Bool.and_eq_true] at hs
    have := of_decide_eq_true hs.1
    rw [List.length_cons] at this
    omega
  refine s_retL (el_lcW (n := ks.length) (Y := YPair (fun i => xs[i]?) fun i => (ks.map V.str)[i]?) (isM ks) (fun i => xs.getD i .non) (by omega) (fun H1 e1 R r => ?_) (fun i y H1 H2 e1 hi hy => ?_)) fun T H1 zT e1 hT => q T H1 zT e1 (by rw [hT, mods_given hsh hst hds])
  · refine eu_tail (ev_var rfl) (st_of (e1 _ _ hy0)) H1 (Ex.refl H1) _ fun p H2 hp e2 h2 => ?_
    refine ev_op (ev_var rfl) ev_c (rv_ixT (K := K) (st_of ((e1.trans e2) _ _ hy0)) (atI_nat (j := 0) rfl)) H2 (Ex.refl H2) _ fun H3 e3 => ?_
    refine ⟨dS, z, .ref aS, rfl, rfl, ⟨es, n, .ref aS, S.kd.at_, S.kd.lit, n1, rfl⟩, ?_⟩
    refine ⟨p, aS, xs, ks.map V.str, rfl, .inr ⟨st_of (e3 _ _ h2), tS.sq, r H3 _ _ (walk_zipT (xs := xs) (ys := ks.map V.str) (by rw [List.length_map]; omega)) (fun H7 H8 e7 z => ⟨ex_t e7 z.1, ex_t e7 z.2⟩) (e2.trans e3) ⟨st_of (e3 _ _ h2), tS.sq⟩⟩⟩
  · obtain ⟨T, x1, y1, rfl, hT, rfl, hx1, hy1⟩ := hy
    have hk1 : ks[i]? = some (ks.getD i "") := by
      rw [List.getElem?_eq_getElem hi]
      simp [List.getD, List.getElem?_eq_getElem hi]
    have ey : y1 = V.str (ks.getD i "") := by
      have hy2 : (ks.map V.str)[i]? = some y1 := hy1
      rw [List.getElem?_map, hk1] at hy2
      exact (Option.some.inj hy2).symm
    subst ey
    have ex1 : xs.getD i .non = x1 := by
      have hx2 : xs[i]? = some x1 := hx1
      rw [List.getD_eq_getElem?_getD, hx2]
      rfl
    refine ⟨Ex.new hT, [some (.ref a), some x1, some (.str (ks.getD i ""))], rfl, fun R r => pair_go upd_same r, et_test (ev_op (ev_var rfl) ev_c (rv_eq rfl)), fun _ => ?_⟩
    rw [ex1]
    exact ev_var rfl
end
end Cr
namespace Cr
open PySem PySem.Spec PyProof.Rows L2 Evl
/-- a def of the program as it is called -/
structure HasO (P : Program) (w : World) (K : PySem.W.Frag) (mg : Str → Option Value) (base : Heap) (k : Nat) (x : Str) (ps : List Str) (sp : Sp) : Prop where
  ex : ∃ f fd, FnOk P w K mg base CX0 k f fd ps sp ∧ Binds K fd ps [] ∧ PySem.W.keepIn K (.ref f) = true ∧ mg x = some (.ref f)
/-- .. that may raise -/
structure HasE (P : Program) (w : World) (K : PySem.W.Frag) (mg : Str → Option Value) (base : Heap) (k : Nat) (x : Str) (ps : List Str) (sp : Sp) : Prop where
  ex : ∃ f fd, FnOk P w K mg base (L2.CX P w) k f fd ps sp ∧ Binds K fd ps [] ∧ PySem.W.keepIn K (.ref f) = true ∧ mg x = some (.ref f)
theorem fnUp {P : Program} {w : World} {K : PySem.W.Frag} {mg : Str → Option Value} {base : Heap} {CX : CXT} {j k : Nat} {f : Addr} {fd : FuncData} {ps : List Str} {sp : Sp} (F : FnOk P w K mg base CX j f fd ps sp) (le : j ≤ k) : FnOk P w K mg base CX k f fd ps sp :=
  ⟨F.len, fun A outer s H args us vs Q E hr e hb r h => F.run A outer s H args us vs Q E (hr.mono le) e hb r h⟩
theorem HasO.up {P : Program} {w : World} {K : PySem.W.Frag} {mg : Str → Option Value} {base : Heap} {x : Str} {ps : List Str} {sp : Sp} {j k : Nat} (h : HasO P w K mg base j x ps sp) (le : j ≤ k) : HasO P w K mg base k x ps sp := by
  obtain ⟨f, fd, G, b, kp, g⟩ := h.ex
  exact ⟨⟨f, fd, fnUp G le, b, kp, g⟩⟩
theorem HasE.up {P : Program} {w : World} {K : PySem.W.Frag} {mg : Str → Option Value} {base : Heap} {x : Str} {ps : List Str} {sp : Sp} {j k : Nat} (h : HasE P w K mg base j x ps sp) (le : j ≤ k) : HasE P w K mg base k x ps sp := by
  obtain ⟨f, fd, G, b, kp, g⟩ := h.ex
  exact ⟨⟨f, fd, fnUp G le, b, kp, g⟩⟩

/-! ### errors with one number -/
/-- where an own error's class stands, and its __init__ -/
structure ErrAt (P : Program) (K : PySem.W.Frag) (mg : Str → Option Value) (C fI : Addr) (fd : FuncData) (b : XB) (cn qual fld : Str) (st : Stmt) : Prop where
  ex : ∃ (cda cc : Addr) (oc : Value) (od an : Option Addr) (kV doc pm ct : Value) (osl : Array (Option Value)),
    fd = PySem.W.ksFn "__init__" qual (defArgs st) (defBody st) (defScope st) .none kV doc pm an (.ref cda) ct cc ∧
    K.lookup fI = some ⟨oc, od, .func fd, osl⟩ ∧ PySem.W.codeIn K (.ref cda) qual = true ∧ SupG P K C cda cc b
  init : PySem.W.findIn K (.ref C) "__init__" = some (some (.ref fI))
  fn : PySem.W.typeIn K (.ref fI) = some (.type "function")
  no : PySem.W.findIn K (.ref C) fld = some none
  at_ : mg cn = some (.ref C)
/-- an error with the number in its field, as it is made -/
structure MkNum (P : Program) (w : World) (K : PySem.W.Frag) (mg : Str → Option Value) (base : Heap) (C : Addr) (cn p fld : Str) : Prop where
  ex : ∃ (fI : Addr) (fd : FuncData) (b : XB), OexG K C b ∧ FnOk P w K mg base CX0 1 fI fd ["self", p] (spInit C fld) ∧ Binds K fd ["self", p] [] ∧
    PySem.W.findIn K (.ref C) "__init__" = some (some (.ref fI)) ∧ PySem.W.typeIn K (.ref fI) = some (.type "function") ∧ mg cn = some (.ref C)
abbrev sInitP : Stmt := inClass (topS 3) 0
theorem scInitP : SupScope ["self", "position"] ["self", "position"] (defScope sInitP) := ⟨rfl, rfl, rfl, by decide +kernel, rfl, by decide +kernel, by decide +kernel, by decide +kernel, by decide +kernel, by decide +kernel⟩
section
variable {P : Program} {w : World} {K : PySem.W.Frag} {mg : Str → Option Value} {base : Heap}
theorem ok_initP {C fI : Addr} {fd : FuncData} {b : XB} {k : Nat} (T : ErrAt P K mg C fI fd b "InvalidProgram" "InvalidProgram.__init__" "position" sInitP) (B : Blt mg) : FnOk P w K mg base CX0 (k + 1) fI fd ["self", "position"] (spInit C "position") := by
  obtain ⟨cda, cc, oc, od, an, kV, doc, pm, ct, osl, rfl, lk, hcd, S⟩ := T.ex
  refine okSupG lk hcd scInitP S B.sup rfl rfl (by decide) (fun vs H Q E h => by obtain ⟨_, _, rfl, _⟩ := h; rfl) (fun A outer s H vs Q E h => ?_)
  obtain ⟨a, i, rfl, hi, ha, q⟩ := h
  refine ⟨a, _, _, rfl, ha, pa_cons (pe_joined (.cons pe_str (.cons (pe_fmt (pv 1)) .nil))) pa_nil, pss_one (ps_ostG (pv 0) (pv 1)), ?_⟩
  have l0 : (Str.empty ++ ("not a program, position " : Str)).length ≤ 100 := by decide +kernel
  have l1 := int_text hi
  refine ⟨_, rfl, Nat.le_trans l0 (by rw [sizeLine_eq]; decide), .int i, rfl, .inr ⟨i, rfl, by omega, _, rfl, by rw [len_add, sizeLine_eq]; omega, ?_⟩⟩
  refine ⟨by show 1 ≤ 1000; decide, ha, .int i, rfl, .ref a, rfl, a, C, b, rfl, S.oex, T.no, .inl ⟨ha, fun dx hdx ne => q dx hdx ne⟩⟩
theorem mkP {C fI : Addr} {fd : FuncData} {b : XB} (T : ErrAt P K mg C fI fd b "InvalidProgram" "InvalidProgram.__init__" "position" sInitP) (B : Blt mg) : MkNum P w K mg base C "InvalidProgram" "position" "position" := by
  have G : FnOk P w K mg base CX0 1 fI fd ["self", "position"] (spInit C "position") := ok_initP T B
  obtain ⟨cda, cc, oc, od, an, kV, doc, pm, ct, osl, rfl, lk, hcd, S⟩ := T.ex
  exact ⟨⟨fI, _, b, S.oex, G, .all fun us hl => match us, hl with | [_, _], _ => rfl, T.init, T.fn, T.at_⟩⟩
end
end Cr
namespace Cr
open PySem PySem.Spec PyProof.Rows L2 Evl
abbrev sBefore : Stmt := topS 19
abbrev sSteps : Stmt := topS 20
abbrev nBefore : List Str := ["value", "steps_after", "modules", "module"]
abbrev nSteps : List Str := ["value", "is_main", "modules", "position", "step"]
theorem scBefore : FnScope nBefore ["value", "steps_after", "modules"] (defScope sBefore) := ⟨rfl, rfl, rfl, by decide +kernel, rfl, by decide +kernel, by decide +kernel⟩
theorem scSteps : FnScope nSteps ["value", "is_main", "modules"] (defScope sSteps) := ⟨rfl, rfl, rfl, by decide +kernel, rfl, by decide +kernel, by decide +kernel⟩
/-- the modules that are allowed: all, or those of a list -/
def MdAt (H : Hp) (m : V) : Option (List V) → Prop
  | none => m = .non
  | some xs => ∃ a, m = .ref a ∧ H a = some (.lst xs) ∧ xs.all flatV = true
theorem MdAt.ex {H H' : Hp} {m : V} {ms : Option (List V)} (e : Ex H H') (h : MdAt H m ms) : MdAt H' m ms := by
  cases ms with
  | none => exact h
  | some xs =>
    obtain ⟨a, h1, h2, h3⟩ := h
    exact ⟨a, h1, e _ _ h2, h3⟩
def modsOk (ms : Option (List V)) (d : PyData) : Bool :=
  match ms with
  | none => true
  | some xs => (modO d).toList.all fun x => inV (.str x) xs
def fitsIn (ms : Option (List V)) (d : PyData) (n : Int) : Bool := isBefore d n && modsOk ms d
def spBefore : Sp := fun vs H Q _ => ∃ v d n m ms, vs = [v, .int n, m] ∧ Dt H v d ∧ sm d = true ∧ MdAt H m ms ∧ ∀ H', Ex H H' → Q (.bl (fitsIn ms d n)) H'
theorem spv_before {H : Hp} {v m : V} {d : PyData} {n : Int} {ms : Option (List V)} (h : Dt H v d) (s : sm d = true) (hm : MdAt H m ms) : SpV spBefore [v, .int n, m] H (.bl (fitsIn ms d n)) := fun H1 e Q q E => ⟨v, d, n, m, ms, rfl, Dt.ex e h, s, hm.ex e, q⟩
def tooFar (n : Int) (d : PyData) : Bool := !skipOk n d
theorem skipLen_ne {z : Str} {ds : List PyData} (hz : z ≠ "skip") : skipLen (.tuple (.str z :: ds)) = none := by
  unfold skipLen
  split
  · rename_i z' _ i _ e2
    cases e2
    rw [if_neg hz]
  · rfl
section
variable {P : Program} {w : World} {K : PySem.W.Frag} {mg : Str → Option Value} {base : Heap}
theorem ok_before {f : Addr} {fd : FuncData} {k : Nat} (F : Fun K "is_step_before" "is_step_before" sBefore f fd) (B : Blt mg) (h1 : HasO P w K mg base k "is_step" ["value"] (spD isStep)) (h2 : HasO P w K mg base k "step_modules" ["step"] spSM) :
    FnOk P w K mg base CX0 (k + 1) f fd ["value", "steps_after", "modules"] spBefore := by
  obtain ⟨f1, d1, G1, b1, k1, g1⟩ := h1.ex
  obtain ⟨f2, d2, G2, b2, k2, g2⟩ := h2.ex
  refine F.ok scBefore (fun vs H Q E h => by obtain ⟨_, _, _, _, _, rfl, _⟩ := h; rfl) (fun cdv A outer s H vs Q E hr h => ?_)
  obtain ⟨v, d, n, m, ms, rfl, hd, hs, hm, q⟩ := h
  refine ⟨_, pss_cons (ps_if (PW.pt (pw_or (pt_not (pt_val (pe_call G1 hr (by rfl) g1 k1 b1 .nil pass0 (pa_cons (pv 0) pa_nil))))
      (pw_or1 (PW.pt (pw_and (pt_cmpR op_eq (pe_ix ix_tup (pv 0) pe_int (fun _ _ => rfl)) pe_str (nomark _)) (pw_and1 (pt_cmpR op_gt (pe_ix ix_tup (pv 0) pe_int (fun _ _ => rfl)) (pv 1) (nomark _)))))))) (pss_one (ps_ret pe_bl)) pss_nil)
    (pss_one (ps_ret (pe_or (pe_cmpR op_isN (pv 2) pe_non (nomark _)) (pe_one (pe_callB (cr_all rfl) (by rfl) B.all bAll (pa_cons
      (pe_lc (own := [("module", 3)]) (g := gName 3) (tt := tYes) (te := tOp (rIn K false) (tVar 3) (tVar 2)) rfl scBefore.nd (pi_list (pe_call G2 hr (by rfl) g2 k2 b2 .nil pass0 (pa_cons (pv 0) pa_nil))) (blkOk_by (own := [("module", 3)]) (N := nBefore) (sc := defScope sBefore) (by decide +kernel))
        (fun _ _ _ _ _ => pg_name (i := 3) scBefore.nd rfl (Or.inl rfl)) (fun _ _ _ _ _ => pts_nil) (fun _ _ _ _ _ => by exact pe_cmpR op_in_seq (pv 3) (pv 2) (by rfl))) pa_nil)))))), ?_⟩
  refine q_when (b := !isStep d || tooFar n d) (et_or (et_not (et_B (ev_call (ea_cons (ev_var rfl) ea_nil) (spv_D hd hs)))) fun hb => ?_) (fun hb H1 e1 => ?_) (fun hb H1 e1 => ?_)
  · have st : isStep d = true := by rw [Bool.not_eq_false'] at hb; exact hb
    obtain ⟨z, ds, rfl⟩ := step_form st
    have ha : ∃ a, v = .ref a := by cases hd; exact ⟨_, rfl⟩
    obtain ⟨a, rfl⟩ := ha
    obtain ⟨xs, hx, hds⟩ := dt_tup hd
    by_cases hz : z = "skip"
    · subst hz
      obtain ⟨x, i, rfl⟩ := skip_form st
      cases hds with
      | cons h0 hr1 =>
        cases hr1 with
        | cons h1 hr2 =>
          cases hr2 with
          | cons h2 hr3 =>
            cases h0; cases h2; cases hr3
            refine et_is (et_and (b := decide (i > n)) (et_test (ev_op (ev_op (ev_var rfl) ev_c (rv_ixT (st_of hx) (atI_nat (j := 0) rfl))) ev_c (rv_eq rfl))) fun _ => et_test (ev_op (ev_op (ev_var rfl) ev_c (rv_ixT (st_of hx) (atI_nat (j := 2) rfl))) (ev_var rfl) rv_I0)) ?_
            rw [decide_eq_true rfl, Bool.true_and]
            show _ = !decide (i ≤ n)
            by_cases hi : i ≤ n
            · rw [decide_eq_true hi, decide_eq_false (by omega)]; rfl
            · rw [decide_eq_false hi, decide_eq_true (by omega)]; rfl
    · cases hds with
      | cons h0 hr1 =>
        cases h0
        have ne : V.str z ≠ V.str "skip" := fun e => hz (V.str.inj e)
        refine et_is (et_and (b := true) (et_test (ev_op (ev_op (ev_var rfl) ev_c (rv_ixT (st_of hx) (atI_nat (j := 0) rfl))) ev_c (rv_eq rfl))) fun z2 => absurd (of_decide_eq_true z2) ne) ?_
        rw [decide_eq_false ne]
        unfold tooFar skipOk
        rw [skipLen_ne hz]
        rfl
  · refine s_ret ev_c fun H2 e2 => ?_
    have g := q H2 (e1.trans e2)
    have zz : fitsIn ms d n = false := by
      unfold fitsIn isBefore
      rcases Bool.or_eq_true_iff.mp hb with z | z
      · rw [Bool.not_eq_true'] at z
        rw [z]; rfl
      · unfold tooFar at z
        rw [Bool.not_eq_true'] at z
        rw [z, Bool.and_false]; rfl
    rw [zz] at g
    exact g
  · rw [Bool.or_eq_false_iff] at hb
    have st : isStep d = true := by have z := hb.1; rw [Bool.not_eq_false'] at z; exact z
    have sk : skipOk n d = true := by have z := hb.2; unfold tooFar at z; rw [Bool.not_eq_false'] at z; exact z
    have bf : isBefore d n = true := by unfold isBefore; rw [st, sk]; rfl
    refine s_ret (v := .bl (fitsIn ms d n)) ?_ fun H2 e2 => q H2 (e1.trans e2)
    have ff : fitsIn ms d n = modsOk ms d := by unfold fitsIn; rw [bf]; rfl
    rw [ff]
    cases ms with
    | none =>
      have hm' : m = .non := hm
      subst hm'
      exact ev_is (ev_orV (b := true) (ev_op (ev_var rfl) ev_c (rv_val fun H2 _ Q q => ⟨rfl, q⟩)) fun z => nomatch z) rfl
    | some xs =>
      obtain ⟨a, rfl, hxs, hf⟩ := hm
      have hx1 := e1 _ _ hxs
      have lst : EvL (tCall spSM [] E0 (tCons (tVar 0) tNil)) (L2.start nBefore [v, .int n, .ref a]) H1 ((modO d).toList.map V.str) := fun H2 e2 Q' q' => ⟨v, rfl, v, d, rfl, Dt.ex (e1.trans e2) hd, hs, st, q'⟩
      have l1 : (modO d).toList.length ≤ 1 := by cases modO d <;> simp
      have lc := el_lcNL (K := K) (j := 3) (vs := [3]) (t := tYes) (te := tOp (rIn K false) (tVar 3) (tVar 2)) (fun _ => true) (fun i => .bl (inV (.str ((modO d).toList.getD i "")) xs)) lst (by rw [List.length_map]; omega) (fun _ => rfl) (fun i x H2 e2 hx => fun H3 _ Q q => q H3 (Ex.refl H3))
        (fun i x H2 e2 hx _ => by
          rw [List.getElem?_map] at hx
          have hi : i < (modO d).toList.length := by
            cases hh : (modO d).toList[i]? with
            | none => rw [hh] at hx; cases hx
            | some y => exact (List.getElem?_eq_some_iff.mp hh).1
          rw [List.getElem?_eq_getElem hi] at hx
          have ex : x = .str ((modO d).toList.getD i "") := by
            rw [List.getD_eq_getElem?_getD, List.getElem?_eq_getElem hi]
            exact (Option.some.inj hx).symm
          subst ex
          exact ev_op (ev_var rfl) (ev_var rfl) (rv_isL (sq_of (e2 _ _ hx1)) rfl hf))
      rw [List.length_map] at lc
      have eg : given (modO d).toList.length (fun _ => true) (fun i => V.bl (inV (.str ((modO d).toList.getD i "")) xs)) = ((List.range (modO d).toList.length).map fun i => inV (.str ((modO d).toList.getD i "")) xs).map V.bl := by
        rw [given_all, List.map_map]; rfl
      rw [eg] at lc
      refine ev_is (ev_orV (ev_op (ev_var rfl) ev_c (rv_val fun H2 _ Q q => ⟨rfl, q⟩)) fun _ => ev_all lc) ?_
      rw [decide_eq_false (fun z => nomatch z), Bool.false_or]
      congr 1
      exact all_range (modO d).toList "" fun x => inV (.str x) xs
end
end Cr
namespace Cr
open PySem PySem.Spec PyProof.Rows L2 Evl
def wrongAt (ms : Option (List V)) (main : Bool) (ds : List PyData) (i : Nat) : Bool := !fitsIn ms (ds.getD i .none) ((ds.length : Int) - i - 1) || (main && isExport (ds.getD i .none))
def firstBad (ms : Option (List V)) (main : Bool) (ds : List PyData) : Option Nat := (List.range ds.length).find? (wrongAt ms main ds)
def dueOf (ms : Option (List V)) (main : Bool) : PyData → Option Int
  | .list ds => if ds.length > 30 then some (-1) else (firstBad ms main ds).map fun i => (i : Int)
  | _ => some (-1)
theorem first_at {ms : Option (List V)} {main : Bool} {ds : List PyData} {i : Nat} (hi : i < ds.length) (hw : wrongAt ms main ds i = true) (hb : ∀ j, j < i → wrongAt ms main ds j = false) : firstBad ms main ds = some i := by
  unfold firstBad
  have e : List.range ds.length = List.range i ++ (List.range (ds.length - i)).map (i + ·) := by
    rw [← List.range_add]
    congr 1
    omega
  rw [e, List.find?_append]
  have n1 : (List.range i).find? (wrongAt ms main ds) = none := by
    rw [List.find?_eq_none]
    intro j hj
    rw [hb j (List.mem_range.mp hj)]
    decide
  rw [n1, Option.none_or]
  obtain ⟨m, hm⟩ : ∃ m, ds.length - i = m + 1 := ⟨ds.length - i - 1, by omega⟩
  rw [hm, List.range_succ_eq_map, List.map_cons, List.find?_cons]
  rw [Nat.add_zero, hw]
theorem first_none {ms : Option (List V)} {main : Bool} {ds : List PyData} (hb : ∀ j, j < ds.length → wrongAt ms main ds j = false) : firstBad ms main ds = none := by
  unfold firstBad
  rw [List.find?_eq_none]
  intro j hj
  rw [hb j (List.mem_range.mp hj)]
  decide
/-- check_steps -/
def spSteps (C : Addr) : Sp := fun vs H Q E => ∃ v d main m ms, vs = [v, .bl main, m] ∧ Dt H v d ∧ sm d = true ∧ MdAt H m ms ∧ (dueOf ms main d = none → ∀ H', Ex H H' → Q .non H') ∧
  ∀ i, dueOf ms main d = some i → ∀ dx H', H dx = none → Ex H H' → H' dx = some (.xd [("position", .int i)]) → E (.ref C) (some dx) H'
def spCheck (C : Addr) : Sp := fun vs H Q E => ∃ v d main, vs = [v, .bl main] ∧ Dt H v d ∧ sm d = true ∧ (dueOf none main d = none → ∀ H', Ex H H' → Q .non H') ∧
  ∀ i, dueOf none main d = some i → ∀ dx H', H dx = none → Ex H H' → H' dx = some (.xd [("position", .int i)]) → E (.ref C) (some dx) H'
theorem dt_list {H : Hp} {a : Addr} {ds : List PyData} (h : Dt H (.ref a) (.list ds)) : ∃ xs, H a = some (.lst xs) ∧ DtAll H xs ds := by
  cases h with
  | lst h h2 => exact ⟨_, h, h2⟩
theorem sm_all {ds : List PyData} (h : sm (.list ds) = true) : smAll ds = true := by
  rw [sm] at h
  exact (Bool.and_eq_true_iff.mp h).2
def tooLong : PyData → Bool
  | .list ds => decide (ds.length > 30)
  | _ => true
theorem due_long {ms : Option (List V)} {main : Bool} {d : PyData} (h : tooLong d = true) : dueOf ms main d = some (-1) := by
  cases d with
  | list ds => exact if_pos (of_decide_eq_true h)
  | _ => rfl
theorem list_form {H : Hp} {v : V} {d : PyData} (hd : Dt H v d) (h : isT "list" d = true) : ∃ a xs ds, v = .ref a ∧ d = .list ds ∧ H a = some (.lst xs) ∧ DtAll H xs ds := by
  cases hd with
  | lst h1 h2 => exact ⟨_, _, _, rfl, rfl, h1, h2⟩
  | _ => exact absurd h (by first | decide | (simp [isT, isTs, tyT]))
section
variable {P : Program} {w : World} {K : PySem.W.Frag} {mg : Str → Option Value} {base : Heap}
theorem ok_steps {f C : Addr} {fd : FuncData} {k : Nat} (F : Fun K "check_steps" "check_steps" sSteps f fd) (B : Blt mg) (T : MkNum P w K mg base C "InvalidProgram" "position" "position") (hk2 : 2 ≤ k) {tM : Tok} (gM : mg "MOST_STEPS" = some (.int 30 tM))
    (h1 : HasO P w K mg base k "is_step_before" ["value", "steps_after", "modules"] spBefore) : FnOk P w K mg base (L2.CX P w) (k + 1) f fd ["value", "is_main", "modules"] (spSteps C) := by
  obtain ⟨f1, d1, G1, b1, k1, g1⟩ := h1.ex
  obtain ⟨fI, fdI, bb, Ox, FI, bI, iI, tI, gC⟩ := T.ex
  refine F.okX scSteps (fun vs H Q E h => by obtain ⟨_, _, _, _, _, rfl, _⟩ := h; rfl) (fun cdv A outer s H vs Q E hr h => ?_)
  obtain ⟨v, d, main, m, ms, rfl, hd, hs, hm, q, qe⟩ := h
  refine ⟨_, pss_cons (ps_if (PW.pt (pw_or (pt_not (pt_val (pe_callB call_isi (by rfl) B.isi bIsi (pa_cons (pv 0) (pa_cons (pe_bltn (v := .ty "list") (by rfl) B.list bList rfl) pa_nil)))))
      (pw_or1 (pt_cmpR op_gt (pe_callB call_len_seq (by rfl) B.len bLen (pa_cons (pv 0) pa_nil)) (pe_glob (v := .int 30) (by rfl) gM ⟨_, rfl⟩) (nomark _)))))
      (pss_one (ps_raise rfl (takes_of rfl rfl rfl rfl) (pmkG Ox iI tI FI (hr.mono hk2) bI .nil pass0 (by rfl) gC (pa_cons (pe_un un_neg pe_int) pa_nil)))) pss_nil)
    (pss_one (ps_for (passes_of rfl) rfl (pi_enum (by rfl) B.enum (pa_cons (pv 0) pa_nil)) (pg_tup rfl (pgs_cons (pg_name (i := 3) scSteps.nd rfl (.inl rfl)) (pgs_cons (pg_name (i := 4) scSteps.nd rfl (.inl rfl)) pgs_nil)))
      (pss_cons (ps_if (pt_not (pt_val (pe_call G1 hr (by rfl) g1 k1 b1 .nil pass0 (pa_cons (pv 4) (pa_cons (pe_op op_sub (pe_op op_sub (pe_callB call_len_seq (by rfl) B.len bLen (pa_cons (pv 0) pa_nil)) (pv 3)) pe_int) (pa_cons (pv 2) pa_nil))))))
        (pss_one (ps_raise rfl (takes_of rfl rfl rfl rfl) (pmkG Ox iI tI FI (hr.mono hk2) bI .nil pass0 (by rfl) gC (pa_cons (pv 3) pa_nil)))) pss_nil)
      (pss_one (ps_if (PW.pt (pw_and (pt_cmpR op_isBl (pv 1) pe_bl (nomark _)) (pw_and1 (pt_cmpR op_eq (pe_ix ix_tup (pv 4) pe_int (fun _ _ => rfl)) pe_str (nomark _)))))
        (pss_one (ps_raise rfl (takes_of rfl rfl rfl rfl) (pmkG Ox iI tI FI (hr.mono hk2) bI .nil pass0 (by rfl) gC (pa_cons (pv 3) pa_nil)))) pss_nil))))), ?_⟩
  -- raised
  have up : ∀ {i : Int} {H1 : Hp}, dueOf ms main d = some i → Ex H H1 → ∀ dx, H1 dx = none → E (.ref C) (some dx) (upd H1 dx (.xd [("position", .int i)])) := fun hi e dx hz => qe _ hi dx _ (fresh_back e hz) (e.trans (Ex.new hz)) upd_same
  have isL := rc_isi (K := K) (T := "list") hd (by decide)
  refine q_when (b := !isT "list" d || tooLong d) (et_or (et_not (et_B (ev_cb (ea_cons (ev_var rfl) (ea_cons ev_c ea_nil)) isL))) fun hb => ?_) (fun hb H1 e1 => ?_) (fun hb H1 e1 => ?_)
  · have hL : isT "list" d = true := by rw [Bool.not_eq_false'] at hb; exact hb
    obtain ⟨a, xs, ds, rfl, rfl, hx, hds⟩ := list_form hd hL
    refine et_is (et_test (ev_op (ev_cb (ea_cons (ev_var rfl) ea_nil) (rc_lenL (sq_of hx))) ev_c rv_I0)) ?_
    show decide ((xs.length : Int) > 30) = decide (ds.length > 30)
    rw [hds.length]
    exact decide_eq_decide.mpr (by omega)
  · have hL : tooLong d = true := by
      cases d with
      | list ds =>
        have hb' : (!isT "list" (.list ds) || tooLong (.list ds)) = true := hb
        rw [show isT "list" (.list ds) = true from rfl, Bool.not_true, Bool.false_or] at hb'
        exact hb'
      | _ => rfl
    exact mk_num ⟨1, rfl, -1, rfl, by decide +kernel, fun dx hz => up (due_long hL) e1 dx hz⟩ (fun k ⟨i, e, r⟩ => ⟨i, e, k _ _ r⟩)
  · rw [Bool.or_eq_false_iff] at hb
    have hL : isT "list" d = true := by have := hb.1; rw [Bool.not_eq_false'] at this; exact this
    obtain ⟨a, xs, ds, rfl, rfl, hx, hds⟩ := list_form hd hL
    have h30 : ¬ ds.length > 30 := of_decide_eq_false hb.2
    have lx := hds.length
    have due : dueOf ms main (.list ds) = (firstBad ms main ds).map fun i => (i : Int) := if_neg h30
    refine ⟨.ref a, rfl, a, xs, rfl, sq_of (e1 _ _ hx), for_it (walk_enum (K := K) (a := a) (xs := xs)) (fun i σ H' => ∃ y2 y3, σ = [some (.ref a), some (.bl main), some m, y2, y3] ∧ Ex H1 H' ∧ ∀ j, j < i → wrongAt ms main ds j = false)
      ⟨none, none, rfl, Ex.refl _, fun j hj => absurd hj (Nat.not_lt_zero _)⟩ (fun i σ H' _ hP => ?_) (fun i x σ H' H2 hi hP hY => ?_) (fun σ H' hP => ?_)⟩
    · obtain ⟨_, _, _, e, _⟩ := hP
      exact sq_of (e _ _ (e1 _ _ hx))
    · obtain ⟨y2, y3, rfl, e2, hw⟩ := hP
      obtain ⟨T', x0, y, rfl, zT, rfl, hx0, hy⟩ := hY
      have hx0' : V.int (i : Nat) = x0 := Option.some.inj hx0
      subst hx0'
      obtain ⟨dy, hdy, hDy⟩ := DtAll.get hds hy
      have sy : sm dy = true := smAll_get (sm_all hs) hdy
      have e3 := Ex.new (o := .tup [.int (i : Nat), y]) zT
      have eH := (e1.trans e2).trans e3
      refine pair_go upd_same ?_
      have gd0 : ds.getD i .none = dy := by rw [List.getD_eq_getElem?_getD, hdy]; rfl
      have hi' : i < ds.length := by omega
      have sml : ((i : Nat) : Int).natAbs.log2 < 1000 := by
        rw [Int.natAbs_natCast]
        exact Nat.lt_of_le_of_lt (Nat.log2_le_self i) (by omega)
      refine q_when (b := !fitsIn ms dy ((ds.length : Int) - i - 1)) (et_not (et_B (ev_call (ea_cons (ev_var rfl) (ea_cons (ev_is (ev_op (ev_op (ev_cb (ea_cons (ev_var rfl) ea_nil) (rc_lenL (sq_of (eH _ _ hx)))) (ev_var rfl) rv_I0) ev_c rv_I0) (by rw [lx])) (ea_cons (ev_var rfl) ea_nil))) (spv_before (Dt.ex eH hDy) sy (hm.ex eH))))) (fun hb2 H3 e4 => ?_) (fun hb2 H3 e4 => ?_)
      · have wr : wrongAt ms main ds i = true := by
          unfold wrongAt
          rw [gd0, hb2, Bool.true_or]
        exact mk_num ⟨.int (i : Nat), rfl, (i : Nat), rfl, sml, fun dx hz => up (by rw [due, first_at hi' wr hw]; rfl) (eH.trans e4) dx hz⟩ (fun k ⟨i, e, r⟩ => ⟨i, e, k _ _ r⟩)
      · have bf : fitsIn ms dy ((ds.length : Int) - i - 1) = true := by rw [Bool.not_eq_false'] at hb2; exact hb2
        have st : isStep dy = true := (Bool.and_eq_true_iff.mp (Bool.and_eq_true_iff.mp bf).1).1
        obtain ⟨z, zs, rfl⟩ := step_form st
        have hay : ∃ b, y = .ref b := by cases hDy; exact ⟨_, rfl⟩
        obtain ⟨b, rfl⟩ := hay
        obtain ⟨ys, hys, hzs⟩ := dt_tup hDy
        cases hzs with
        | cons h0 hr0 =>
          cases h0
          have eH4 := eH.trans e4
          refine s_when (b := main && (z == "export")) (et_and (et_is (et_test (ev_op (ev_var rfl) ev_c (rv_val fun H6 _ Q q => ⟨_, _, rfl, rfl, q⟩))) (by cases main <;> rfl)) fun _ => et_is (et_test (ev_op (ev_op (ev_var rfl) ev_c (rv_ixT (st_of (eH4 _ _ hys)) (atI_nat (j := 0) rfl))) ev_c (rv_eq rfl))) ?_) (fun hb3 H4 e5 => ?_) (fun hb3 H4 e5 => ?_)
          · by_cases hz : z = "export"
            · subst hz; rw [decide_eq_true rfl]; decide
            · rw [decide_eq_false (fun e => hz (V.str.inj e)), beq_eq_false_iff_ne.mpr hz]
          · have wr : wrongAt ms main ds i = true := by
              unfold wrongAt
              rw [gd0]
              show (_ || (main && (z == "export"))) = true
              rw [hb3, Bool.or_true]
            exact mk_num ⟨.int (i : Nat), rfl, (i : Nat), rfl, sml, fun dx hz => up (by rw [due, first_at hi' wr hw]; rfl) (eH4.trans e5) dx hz⟩ (fun k ⟨i, e, r⟩ => ⟨i, e, k _ _ r⟩)
          · refine ⟨_, _, rfl, ((e2.trans e3).trans e4).trans e5, fun j hj => ?_⟩
            by_cases hji : j = i
            · subst hji
              unfold wrongAt
              rw [gd0, bf]
              show (_ || (main && (z == "export"))) = false
              rw [hb3]; rfl
            · exact hw j (by omega)
    · obtain ⟨_, _, rfl, e2, hw⟩ := hP
      exact q (by rw [due, first_none fun j hj => hw j (by omega)]; rfl) H' (e1.trans e2)
end
end Cr
namespace Cr
open PySem PySem.Spec PyProof.Rows L2 Evl
abbrev sCheck : Stmt := topS 21
theorem scCheck : FnScope ["value", "is_main"] ["value", "is_main"] (defScope sCheck) := ⟨rfl, rfl, rfl, by decide +kernel, rfl, by decide +kernel, by decide +kernel⟩
/-- check_program, as it is called: one value, or is_main by its name -/
structure HasC (P : Program) (w : World) (K : PySem.W.Frag) (mg : Str → Option Value) (base : Heap) (k : Nat) (C : Addr) : Prop where
  ex : ∃ f fd, FnOk P w K mg base (L2.CX P w) k f fd ["value", "is_main"] (spCheck C) ∧ (∃ ds, Vals [.bl false] ds ∧ Binds K fd ["value", "is_main"] ds) ∧ (∃ g, KBn K fd ["value", "is_main"] 1 ["is_main"] g (fun vs zs => vs ++ zs)) ∧
    PySem.W.keepIn K (.ref f) = true ∧ mg "check_program" = some (.ref f)
/-! ### bare values -/
/-- texts and ints of a step -/
def bareV : V → Bool
  | .int _ => true
  | .str x => decide (x.length ≤ 1000)
  | _ => false
def spBareW : Sp := fun vs H Q _ => ∃ x : Str, vs = [.str x] ∧ x.length ≤ 1000 ∧ ∀ H', Ex H H' → Q (.str x) H'
def spBareI : Sp := fun vs H Q _ => ∃ v : V, vs = [v] ∧ bareV v = true ∧ ∀ H', Ex H H' → Q v H'
/-- steps stand at the places xs: tuples of the values vss -/
def Steps (H : Hp) : List V → List (List V) → Prop
  | [], [] => True
  | x :: xs, vs :: vss => (∃ t, x = .ref t ∧ H t = some (.tup vs)) ∧ Steps H xs vss
  | _, _ => False
/-- all tuples stand as they stood -/
def Tps (H H' : Hp) : Prop := ∀ a xs, H a = some (.tup xs) → H' a = some (.tup xs)
theorem Ex.tps {H H' : Hp} (e : Ex H H') : Tps H H' := fun a xs h => e a _ h
theorem Tps.refl (H : Hp) : Tps H H := fun _ _ h => h
theorem Tps.trans {H H1 H2 : Hp} (a : Tps H H1) (b : Tps H1 H2) : Tps H H2 := fun x o h => b x o (a x o h)
theorem Tps.upd {H H' : Hp} {p : Addr} {o : HO} (a : Tps H H') (h : ∀ xs, H' p ≠ some (.tup xs)) : Tps H (upd H' p o) := fun x xs z => by
  have y := a x xs z
  rw [upd_ne (fun e => h xs (by rw [← e]; exact y))]
  exact y
theorem Steps.tps {H H' : Hp} (e : Tps H H') : ∀ {xs : List V} {vss : List (List V)}, Steps H xs vss → Steps H' xs vss
  | [], [], _ => trivial
  | _ :: _, _ :: _, ⟨⟨t, h1, h2⟩, h⟩ => ⟨⟨t, h1, e _ _ h2⟩, Steps.tps e h⟩
theorem Steps.length {H : Hp} : ∀ {xs : List V} {vss : List (List V)}, Steps H xs vss → xs.length = vss.length
  | [], [], _ => rfl
  | _ :: _, _ :: _, ⟨_, h⟩ => by rw [List.length_cons, List.length_cons, Steps.length h]
theorem Steps.get {H : Hp} : ∀ {xs : List V} {vss : List (List V)} {i : Nat} {vs : List V}, Steps H xs vss → vss[i]? = some vs → ∃ t, xs[i]? = some (.ref t) ∧ H t = some (.tup vs)
  | [], [], _, _, _, h => by simp at h
  | _ :: _, _ :: _, 0, _, ⟨⟨t, h1, h2⟩, _⟩, h => by simp at h; subst h; exact ⟨t, by rw [h1]; rfl, h2⟩
  | _ :: _, _ :: _, i + 1, _, ⟨_, r⟩, h => by
    obtain ⟨t, a, b⟩ := Steps.get (i := i) r (by simpa using h)
    exact ⟨t, by simpa using a, b⟩
theorem Steps.snoc {H : Hp} {t : Addr} {vs : List V} (h : H t = some (.tup vs)) : ∀ {xs : List V} {vss : List (List V)}, Steps H xs vss → Steps H (xs ++ [.ref t]) (vss ++ [vs])
  | [], [], _ => ⟨⟨t, rfl, h⟩, trivial⟩
  | _ :: _, _ :: _, ⟨a, r⟩ => ⟨a, Steps.snoc h r⟩
theorem Steps.take {H : Hp} {xs : List V} {vss : List (List V)} (h : Steps H xs vss) : ∀ {i : Nat}, Steps H (xs.take i) (vss.take i) := by
  intro i
  induction i generalizing xs vss with
  | zero => rw [List.take_zero, List.take_zero]; trivial
  | succ i ih =>
    match xs, vss, h with
    | [], [], _ => trivial
    | _ :: _, _ :: _, ⟨a, r⟩ => exact ⟨a, ih r⟩
/-- the data of such steps -/
def stepsD (vss : List (List V)) : List PyData := vss.map fun vs => .tuple (vs.map flD)
theorem Steps.dt {H : Hp} : ∀ {xs : List V} {vss : List (List V)}, Steps H xs vss → (∀ vs ∈ vss, vs.all flatV = true) → DtAll H xs (stepsD vss)
  | [], [], _, _ => .nil
  | _ :: _, vs :: vss, ⟨⟨t, h1, h2⟩, r⟩, hf => by
    subst h1
    exact .cons (.tup h2 (dtAll_flat (hf vs List.mem_cons_self))) (Steps.dt r fun v hv => hf v (List.mem_cons_of_mem _ hv))
/-- bare_program: new tuples of the same values -/
def spBareP : Sp := fun vs H Q _ => ∃ (a : Addr) (xs : List V) (vss : List (List V)), vs = [.ref a] ∧ H a = some (.lst xs) ∧ Steps H xs vss ∧ vss.length ≤ 1000 ∧ (∀ vs ∈ vss, vs.all bareV = true ∧ 1 ≤ vs.length ∧ vs.length ≤ 10) ∧
  ∀ l ys H', H l = none → Ex H H' → H' l = some (.lst ys) → Steps H' ys vss → Q (.ref l) H'
/-- the scope of a comprehension that is returned -/
def compScope : List Stmt → Scope
  | [.Return (some (.ListComp _ _ sc _)) _] => sc
  | _ => { kind := .function, names := [], isGenerator := false, isCoroutine := false, more := [] }
def rTupleOf (K : PySem.W.Frag) : List V → Hp → VK → Prop := fun xs H Q => ∃ p ys, xs = [.ref p] ∧ ((SqL K H p ys ∧ ∀ l, H l = none → Q (.ref l) (upd H l (.tup ys))) ∨ (SqT K H p ys ∧ Q (.ref p) H))
theorem eu_tupleOf {K : PySem.W.Frag} {te : TE} {σ : L2.St} {H : Hp} {xs : List V} (h : EvL te σ H xs) : EvU (tCB (rTupleOf K) (tCons te tNil)) σ H xs := fun H1 e Q q =>
  h H1 e _ fun p H2 _ e2 h2 => ⟨p, xs, rfl, .inl ⟨sq_of h2, fun l hl => q l _ (fresh_back e2 hl) (e2.trans (Ex.new hl)) upd_same⟩⟩
theorem join_one (x : Str) : Txt.join ("" : Str) [x] = x := by
  rw [TL.join_eq]
  rfl
section
variable {P : Program} {w : World} {K : PySem.W.Frag} {mg : Str → Option Value} {base : Heap}
theorem ok_check {f C : Addr} {fd : FuncData} {k : Nat} (F : Fun K "check_program" "check_program" sCheck f fd) (h1 : HasE P w K mg base k "check_steps" ["value", "is_main", "modules"] (spSteps C)) : FnOk P w K mg base (L2.CX P w) (k + 1) f fd ["value", "is_main"] (spCheck C) := by
  obtain ⟨f1, d1, G1, b1, k1, g1⟩ := h1.ex
  refine F.okX scCheck (fun vs H Q E h => by obtain ⟨_, _, _, rfl, _⟩ := h; rfl) (fun cdv A outer s H vs Q E hr h => ?_)
  obtain ⟨v, d, main, rfl, hd, hs, q, qe⟩ := h
  refine ⟨_, pss_one (ps_expr (pe_call (E := E) G1 hr (by rfl) g1 k1 b1 .nil (passes_call (takes_of rfl rfl rfl rfl) fun _ _ _ _ h => h) (pa_cons (pv 0) (pa_cons (pv 1) (pa_cons pe_non pa_nil))))), ?_⟩
  exact ⟨v, rfl, .bl main, rfl, v, d, main, .non, none, rfl, hd, hs, rfl, q, qe⟩
end
end Cr
/-! the law's own draws -/
namespace Cr
open PySem PySem.Spec PyProof.Rows L2 Evl
abbrev sPot : Stmt := topS 24
abbrev sDraw : Stmt := topS 25
abbrev sChoice : Stmt := topS 26
abbrev sInteger : Stmt := topS 29
abbrev nPot : List Str := ["_law_script", "_law_index", "_law_cell"]
abbrev nDraw : List Str := ["_law_pot_here", "_law_most", "_law_digit"]
abbrev nChoice : List Str := ["_law_pot_here", "_law_options"]
theorem scPot : FnScope nPot ["_law_script", "_law_index"] (defScope sPot) := ⟨rfl, rfl, rfl, by decide +kernel, rfl, by decide +kernel, by decide +kernel⟩
theorem scDraw : FnScope nDraw ["_law_pot_here", "_law_most"] (defScope sDraw) := ⟨rfl, rfl, rfl, by decide +kernel, rfl, by decide +kernel, by decide +kernel⟩
theorem scChoice : FnScope nChoice ["_law_pot_here", "_law_options"] (defScope sChoice) := ⟨rfl, rfl, rfl, by decide +kernel, rfl, by decide +kernel, by decide +kernel⟩
theorem scInteger : FnScope ["_law_pot_here"] ["_law_pot_here"] (defScope sInteger) := ⟨rfl, rfl, rfl, by decide +kernel, rfl, by decide +kernel, by decide +kernel⟩
theorem bMax : bootBuiltins "max" = some (.builtin "max") := by decide +kernel
theorem bMin : bootBuiltins "min" = some (.builtin "min") := by decide +kernel
theorem bAbs : bootBuiltins "abs" = some (.builtin "abs") := by decide +kernel
theorem bDivmod : bootBuiltins "divmod" = some (.builtin "divmod") := by decide +kernel

/-- the pot at p -/
def Pot (H : Hp) (p : Addr) : Prop := ∃ x y : Int, H p = some (.lst [.int x, .int y]) ∧ 0 ≤ x ∧ 0 ≤ y ∧ y < 2147483648
/-- drawn from: all but the pot stands as it stood -/
structure Drew (p : Addr) (H H' : Hp) : Prop where
  ex : Ex (wo p H) (wo p H')
  pot : Pot H' p
theorem Drew.trans {p : Addr} {H H1 H2 : Hp} (a : Drew p H H1) (b : Drew p H1 H2) : Drew p H H2 := ⟨a.ex.trans b.ex, b.pot⟩
theorem Drew.refl {p : Addr} {H : Hp} (h : Pot H p) : Drew p H H := ⟨Ex.refl _, h⟩
theorem Pot.ex {p : Addr} {H H' : Hp} (h : Pot H p) (e : Ex H H') : Pot H' p := by
  obtain ⟨x, y, h, r⟩ := h
  exact ⟨x, y, e _ _ h, r⟩
theorem Drew.of {p : Addr} {H H' : Hp} (h : Pot H p) (e : Ex H H') : Drew p H H' := ⟨Ex.wo e, h.ex e⟩
theorem Drew.at {p a : Addr} {H H' : Hp} {o : HO} (d : Drew p H H') (n : a ≠ p) (h : H a = some o) : H' a = some o :=
  (wo_some (d.ex a o (by rw [wo_ne n]; exact h))).2
theorem Drew.set {p : Addr} {H : Hp} {o : HO} {x y : Int} (e : o = .lst [.int x, .int y]) (hx : 0 ≤ x) (hy : 0 ≤ y) (hy2 : y < 2147483648) : Drew p H (upd H p o) :=
  ⟨wo_upd (Ex.refl _), x, y, by rw [upd_same, e], hx, hy, hy2⟩
theorem fresh_drew {p q : Addr} {H H' : Hp} (d : Drew p H H') (hp : Pot H p) (h : H' q = none) : H q = none := by
  cases e : H q with
  | none => rfl
  | some o =>
    by_cases n : q = p
    · subst n
      obtain ⟨x, y, z, _⟩ := d.pot
      rw [z] at h
      cases h
    · rw [d.at n e] at h
      cases h

def spPot (K : PySem.W.Frag) : Sp := fun vs H Q _ => ∃ (a : Addr) (ns : List Int) (i : Nat), vs = [.ref a, .int (i : Int)] ∧ SqL K H a (ns.map V.int) ∧ i < 100 ∧ ∀ p H', H p = none → Ex H H' → Pot H' p → Q (.ref p) H'
def spDraw : Sp := fun vs H Q _ => ∃ (p : Addr) (b : Int), vs = [.ref p, .int b] ∧ 0 < b ∧ b.natAbs.log2 < 9000 ∧ Pot H p ∧ ∀ d H', 0 ≤ d → d < b → Drew p H H' → Q (.int d) H'
def spChoice : Sp := fun vs H Q _ => ∃ (p : Addr), Pot H p ∧
  ((∃ (o : Addr) (xs : List V), vs = [.ref p, .ref o] ∧ o ≠ p ∧ H o = some (.lst xs) ∧ 0 < xs.length ∧ xs.length ≤ 1000 ∧ ∀ v H', v ∈ xs → Drew p H H' → Q v H') ∨
   ∃ z : Str, vs = [.ref p, .str z] ∧ 0 < z.length ∧ z.length ≤ 1000 ∧ ∀ c H', c ∈ z.cps.toList → Drew p H H' → Q (.str ⟨#[c]⟩) H')
theorem pow3_pos {m : Int} : 0 < (2147483587 : Int) := by decide

section
variable {P : Program} {w : World} {K : PySem.W.Frag} {mg : Str → Option Value} {base : Heap}
theorem ok_pot {f : Addr} {fd : FuncData} {k : Nat} (F : Fun K "_law_pot" "_law_pot" sPot f fd) (B : Blt mg) : FnG P w K mg base CX0 (k + 1) f fd ["_law_script", "_law_index"] (spPot K) := by
  refine okG F scPot (fun vs H Q E h => by obtain ⟨_, _, _, rfl, _⟩ := h; rfl) (fun cdv A outer s H vs Q E hq hr h => ?_)
  obtain ⟨a, ns, i, rfl, hS, hi, q⟩ := h
  refine ⟨_, pss_cons (ps_set (i := 2) scPot.nd rfl (.inl rfl) pe_int)
    (pss_cut (ps_if (pt_cmpR op_lt (pv 1) (pe_callB call_len_seq (by rfl) B.len bLen (pa_cons (pv 0) pa_nil)) (nomark _))
      (pss_one (ps_set (i := 2) scPot.nd rfl (.inl rfl) (pe_callB call_abs (by rfl) B.abs bAbs (pa_cons (pe_ix ix_list (pv 0) (pv 1) (fun _ _ => rfl)) pa_nil)))) pss_nil)
    (pss_one (ps_ret (pe_lst (pa_cons (pe_callB (call_max2 rfl) (by rfl) B.max bMax (pa_cons pe_int (pa_cons (pe_op op_sub (pv 2) (pe_op op_pow pe_int pe_int)) pa_nil)))
      (pa_cons (pe_op op_add (pe_op op_mod (pe_op op_pow (pe_op op_add (pe_op op_add (pe_op op_mod (pv 2) pe_int) (pe_op op_mul pe_int (pv 1))) pe_int) pe_int) pe_int) pe_int) pa_nil)))))), ?_⟩
  refine q_asg ev_c fun H1 e1 => ?_
  refine q_cut (M := fun σ H2 => ∃ c : Int, 0 ≤ c ∧ σ = [some (.ref a), some (.int i), some (.int c)] ∧ Ex H H2) ?_ ?_
  · refine s_when (et_test (ev_op (ev_var rfl) (ev_cb (ea_cons (ev_var rfl) ea_nil) (rc_lenL (ex_l e1 hS))) rv_I0)) (fun hb H2 e2 => ?_) (fun hb H2 e2 => ⟨0, Int.le_refl 0, rfl, e1.trans e2⟩)
    have hlt := of_decide_eq_true hb
    rw [List.length_map] at hlt
    have hlt2 : i < ns.length := by omega
    refine s_asg (v := .int (if ns[i] < 0 then -ns[i] else ns[i])) (ev_cb (ea_cons (ev_op (ev_var rfl) (ev_var rfl) (rv_ixL (ex_l (e1.trans e2) hS) (atI_nat (j := i) (v := .int ns[i]) (by rw [List.getElem?_map, List.getElem?_eq_getElem hlt2]; rfl)))) ea_nil) (fun H3 _ Q q => ⟨_, rfl, q H3 (Ex.refl H3)⟩)) fun H3 e3 => ?_
    exact ⟨_, by split <;> omega, rfl, (e1.trans e2).trans e3⟩
  · rintro σ H2 ⟨c, hc, rfl, e2⟩
    have hm : 0 ≤ c % 2147483629 ∧ c % 2147483629 < 2147483629 := ⟨Int.emod_nonneg _ (by decide), Int.emod_lt_of_pos _ (by decide)⟩
    have hz : (c % 2147483629 + 1013 * (i : Int) + 7).natAbs < 2 ^ 64 := by omega
    have hx : ∀ y : Int, 0 ≤ y % 2147483587 ∧ y % 2147483587 < 2147483587 := fun y => ⟨Int.emod_nonneg _ (by decide), Int.emod_lt_of_pos _ (by decide)⟩
    have hx1 := hx ((c % 2147483629 + 1013 * (i : Int) + 7) ^ (3 : Int).toNat)
    refine s_retL (el_lst (ea_cons (ev_cb (ea_cons ev_c (ea_cons (ev_op (ev_var rfl) (ev_op ev_c ev_c (rv_I ⟨by decide, by decide, by decide⟩)) rv_I0) ea_nil)) (fun H3 _ Q q => ⟨_, _, rfl, q H3 (Ex.refl H3)⟩))
      (ea_cons (ev_op (ev_op (ev_op (ev_op (ev_op (ev_op (ev_var rfl) ev_c (rv_I (by show (0 : Int) < 2147483629; decide))) (ev_op ev_c (ev_var rfl) (rv_I (.inl ⟨by decide, by decide⟩))) rv_I0) ev_c rv_I0) ev_c (rv_I ⟨by decide, by decide, hz⟩)) ev_c (rv_I (by show (0 : Int) < 2147483587; decide))) ev_c rv_I0) ea_nil)) (by show 2 ≤ 100000; decide)) fun p H3 hp e3 h3 => ?_
    refine q p H3 (fresh_back e2 hp) (e2.trans e3) ⟨_, _, h3, ?_, ?_, ?_⟩
    · split <;> omega
    · omega
    · omega
end
end Cr
namespace Cr
open PySem PySem.Spec PyProof.Rows L2 Evl
/-- the law's helpers as they are called: the promise, how it binds, where it stands -/
structure Has (P : Program) (w : World) (K : PySem.W.Frag) (mg : Str → Option Value) (base : Heap) (k : Nat) (x : Str) (ps : List Str) (sp : Sp) : Prop where
  ex : ∃ f fd, FnG P w K mg base CX0 k f fd ps sp ∧ Binds K fd ps [] ∧ PySem.W.keepIn K (.ref f) = true ∧ mg x = some (.ref f)
theorem divp_small {i j : Int} (h : 0 < j) (hj : j.natAbs.log2 < 9000) : CDivP i j := by
  refine ⟨h, ?_⟩
  show (decide ((if j == 0 then 0 else j.natAbs.log2 / 30 + 1) > 300) && decide ((if i == 0 then 0 else i.natAbs.log2 / 30 + 1) > (if j == 0 then 0 else j.natAbs.log2 / 30 + 1) + 150)) = false
  rw [if_neg (show ¬ (j == 0) = true by simpa using (show j ≠ 0 by omega)), decide_eq_false (show ¬ j.natAbs.log2 / 30 + 1 > 300 by omega), Bool.false_and]
section
variable {P : Program} {w : World} {K : PySem.W.Frag} {mg : Str → Option Value} {base : Heap}
theorem ok_draw {f : Addr} {fd : FuncData} {k : Nat} (F : Fun K "_law_draw" "_law_draw" sDraw f fd) (B : Blt mg) : FnG P w K mg base CX0 (k + 1) f fd ["_law_pot_here", "_law_most"] spDraw := by
  refine okG F scDraw (fun vs H Q E h => by obtain ⟨_, _, rfl, _⟩ := h; rfl) (fun cdv A outer s H vs Q E hq hr h => ?_)
  obtain ⟨p, b, rfl, hb, hb2, ⟨x, y, hp, hx, hy, hy2⟩, q⟩ := h
  refine ⟨_, pss_cons (ps_if (pt_cmpR op_gt (pe_ix ix_list (pv 0) pe_int (fun _ _ => rfl)) pe_int (nomark _))
      (pss_cons (ps_asg (pe_callB call_divmodW (by rfl) B.divmod bDivmod (pa_cons (pe_ix ix_list (pv 0) pe_int (fun _ _ => rfl)) (pa_cons (pv 1) pa_nil)))
          (pg_tup rfl (pgs_cons (pg_sub (pv 0) pe_int set_list) (pgs_cons (pg_name (i := 2) scDraw.nd rfl (.inl rfl)) pgs_nil))))
        (pss_one (ps_ret (pv 2)))) pss_nil)
    (pss_cons (ps_asg (pe_op op_mod (pe_op op_add (pe_op op_mul (pe_ix ix_list (pv 0) pe_int (fun _ _ => rfl)) pe_int) pe_int) pe_int) (pg_sub (pv 0) pe_int set_list))
    (pss_one (ps_ret (pe_op op_mod (pe_op op_fdiv (pe_op op_mod (pe_op op_mul (pe_ix ix_list (pv 0) pe_int (fun _ _ => rfl)) (pe_ix ix_list (pv 0) pe_int (fun _ _ => rfl))) pe_int) pe_int) (pv 1))))), ?_⟩
  have i0 : atI [V.int x, V.int y] 0 = some (.int x) := atI_nat (j := 0) rfl
  have i1 : ∀ z : Int, atI [V.int x, V.int z] 1 = some (.int z) := fun z => atI_nat (j := 1) rfl
  refine q_when (et_test (ev_op (ev_op (ev_var rfl) ev_c (rv_ixL (sq_of hp) i0)) ev_c rv_I0)) (fun hc H1 e1 => ?_) (fun hc H1 e1 => ?_)
  · -- the digits
    have hx1 : 0 < x := of_decide_eq_true hc
    have hp1 := e1 _ _ hp
    refine ev_op (ev_var rfl) ev_c (rv_ixL (K := K) (sq_of hp1) i0) H1 (Ex.refl H1) _ fun H2 e2 => ?_
    refine ⟨.int b, rfl, x, b, rfl, divp_small hb hb2, fun t ht => ?_⟩
    have tp : p ≠ t := ne_of_none (e2 _ _ hp1) ht
    refine ⟨t, [.int (x / b), .int (x % b)], rfl, .inl (.inl upd_same), rfl, .int (x / b), [.int (x % b)], rfl, .ref p, rfl, p, [.int x, .int y], 0, 0, rfl, rfl, ?_, rfl, .int (x % b), [], rfl, rfl, .int (x % b), rfl, ?_⟩
    · rw [upd_ne tp]
      exact e2 _ _ hp1
    · refine q (x % b) _ (Int.emod_nonneg _ (by omega)) (Int.emod_lt_of_pos _ hb) ?_
      refine Drew.trans (H1 := upd H2 t (.tup [.int (x / b), .int (x % b)])) (Drew.of ⟨x, y, hp, hx, hy, hy2⟩ ((e1.trans e2).trans (Ex.new ht))) ?_
      exact Drew.set rfl (Int.ediv_nonneg hx (by omega)) hy hy2
  · have hp1 := e1 _ _ hp
    have m1 : 0 ≤ (y * 48271 + 10037) % 2147483587 ∧ (y * 48271 + 10037) % 2147483587 < 2147483587 := ⟨Int.emod_nonneg _ (by decide), Int.emod_lt_of_pos _ (by decide)⟩
    generalize ez : (y * 48271 + 10037) % 2147483587 = z at m1
    refine ev_op (z := .int ((y * 48271 + 10037) % 2147483587)) (ev_op (ev_op (ev_op (ev_var rfl) ev_c (rv_ixL (K := K) (sq_of hp1) (i1 y))) ev_c (rv_I (.inl ⟨by omega, by omega⟩))) ev_c rv_I0) ev_c (rv_I (by show (0 : Int) < 2147483587; decide)) H1 (Ex.refl H1) _ fun H2 e2 => ?_
    rw [ez]
    refine ⟨.ref p, rfl, p, [.int x, .int y], 1, 1, rfl, rfl, e2 _ _ hp1, rfl, ?_⟩
    have dr : Drew p H (upd H2 p (.lst [.int x, .int z])) := Drew.trans (H1 := H2) (Drew.of ⟨x, y, hp, hx, hy, hy2⟩ (e1.trans e2)) (Drew.set rfl hx m1.1 (by omega))
    have hp3 : (upd H2 p (.lst [.int x, .int z])) p = some (.lst [.int x, .int z]) := upd_same
    have ix : Ev (tOp (rIxL K) (tVar 0) (tC (.int 1))) [some (.ref p), some (.int b), none] (upd H2 p (.lst [.int x, .int z])) (.int z) := ev_op (ev_var rfl) ev_c (rv_ixL (sq_of hp3) (i1 z))
    refine s_ret (ev_op (ev_op (ev_op (ev_op ix ix (rv_I (.inl ⟨by omega, by omega⟩))) ev_c (rv_I (by show (0 : Int) < 2147483563; decide))) ev_c (rv_I ⟨by decide, by decide⟩)) (ev_var rfl) (rv_I (C := fun _ j => 0 < j) hb)) fun H3 e3 => ?_
    exact q _ H3 (Int.emod_nonneg _ (by omega)) (Int.emod_lt_of_pos _ hb) (dr.trans (Drew.of dr.pot e3))

theorem ok_choice {f : Addr} {fd : FuncData} {k : Nat} (F : Fun K "_law_choice" "_law_choice" sChoice f fd) (B : Blt mg) (D : Has P w K mg base k "_law_draw" ["_law_pot_here", "_law_most"] spDraw) :
    FnG P w K mg base CX0 (k + 1) f fd ["_law_pot_here", "_law_options"] spChoice := by
  obtain ⟨fD, fdD, GD, bD, kD, gD⟩ := D.ex
  refine okG F scChoice (fun vs H Q E h => by obtain ⟨_, _, h⟩ := h; rcases h with ⟨_, _, rfl, _⟩ | ⟨_, rfl, _⟩ <;> rfl) (fun cdv A outer s H vs Q E hq hr h => ?_)
  obtain ⟨p, pot, h⟩ := h
  refine ⟨_, pss_one (ps_ret (pe_ix ix_seq (pv 1) (callG GD hq hr (by rfl) gD kD bD .nil pass0 (pa_cons (pv 0) (pa_cons (pe_callB call_len (by rfl) B.len bLen (pa_cons (pv 1) pa_nil)) pa_nil))) (fun _ _ => rfl))), ?_⟩
  have small : ∀ n : Nat, 0 < n → n ≤ 1000 → ((n : Int)).natAbs.log2 < 9000 := fun n h1 h2 => by
    have : (n : Int).natAbs = n := Int.natAbs_natCast n
    rw [this]
    have := (Nat.log2_lt (k := 10) (by omega)).mpr (show n < 2 ^ 10 by omega)
    omega
  rcases h with ⟨o, xs, rfl, ne, ho, h1, h2, q⟩ | ⟨z, rfl, h1, h2, q⟩
  · refine ⟨.ref o, rfl, .ref p, rfl, .ref o, rfl, .ref o, xs.length, rfl, .inl ⟨xs, sq_of ho, rfl⟩, p, (xs.length : Int), rfl, by omega, small _ h1 h2, pot, fun d H1 d0 d1 dr => ?_⟩
    obtain ⟨j, rfl⟩ := Int.eq_ofNat_of_zero_le d0
    have hj : j < xs.length := by omega
    exact .inl ⟨o, xs, (j : Int), xs[j], rfl, rfl, sq_of (dr.at ne ho), atI_nat (List.getElem?_eq_getElem hj), q _ H1 (List.getElem_mem hj) dr⟩
  · refine ⟨.str z, rfl, .ref p, rfl, .str z, rfl, .str z, z.length, rfl, ⟨sz_of (by omega), rfl⟩, p, (z.length : Int), rfl, by omega, small _ h1 h2, pot, fun d H1 d0 d1 dr => ?_⟩
    obtain ⟨j, rfl⟩ := Int.eq_ofNat_of_zero_le d0
    have hj : j < z.cps.toList.length := by
      have : z.cps.toList.length = z.length := by simp [Str.length]
      omega
    exact .inr (.inr ⟨z, (j : Int), z.cps.toList[j], rfl, rfl, sz_of (by omega), atI_nat (List.getElem?_eq_getElem hj), q _ H1 (List.getElem_mem hj) dr⟩)

/-- an int of at most thirty digits -/
def spInteger : Sp := fun vs H Q _ => ∃ p : Addr, vs = [.ref p] ∧ Pot H p ∧ ∀ (i : Int) H', i.natAbs ≤ 10 ^ 30 → Drew p H H' → Q (.int i) H'
theorem ok_integer {f : Addr} {fd : FuncData} {k : Nat} (F : Fun K "_law_integer" "_law_integer" sInteger f fd) (D : Has P w K mg base k "_law_draw" ["_law_pot_here", "_law_most"] spDraw) (C : Has P w K mg base k "_law_choice" ["_law_pot_here", "_law_options"] spChoice) :
    FnG P w K mg base CX0 (k + 1) f fd ["_law_pot_here"] spInteger := by
  obtain ⟨fD, fdD, GD, bD, kD, gD⟩ := D.ex
  obtain ⟨fC, fdC, GC, bC, kC, gC⟩ := C.ex
  refine okG F scInteger (fun vs H Q E h => by obtain ⟨_, rfl, _⟩ := h; rfl) (fun cdv A outer s H vs Q E hq hr h => ?_)
  obtain ⟨p, rfl, pot, q⟩ := h
  refine ⟨_, pss_one (ps_ret (callG GC hq hr (by rfl) gC kC bC .nil pass0 (pa_cons (pv 0) (pa_cons (pe_lst (pa_cons pe_int (pa_cons pe_int (pa_cons (pe_un un_neg pe_int)
    (pa_cons (pe_op op_sub (callG GD hq hr (by rfl) gD kD bD .nil pass0 (pa_cons (pv 0) (pa_cons pe_int pa_nil))) pe_int)
    (pa_cons (callG GD hq hr (by rfl) gD kD bD .nil pass0 (pa_cons (pv 0) (pa_cons (pe_op op_pow pe_int pe_int) pa_nil)))
    (pa_cons (pe_op op_sub pe_int (callG GD hq hr (by rfl) gD kD bD .nil pass0 (pa_cons (pv 0) (pa_cons (pe_op op_pow pe_int pe_int) pa_nil)))) pa_nil))))))) pa_nil)))), ?_⟩
  have big : (10 : Int) ^ (30 : Int).toNat = 1000000000000000000000000000000 := by decide
  have lb : ((10 : Int) ^ (30 : Int).toNat).natAbs.log2 < 9000 := by rw [big]; decide +kernel
  refine ⟨.ref p, rfl, 1, rfl, .ref p, rfl, p, 9, rfl, by decide, by decide +kernel, pot, fun d1 H1 a1 b1 r1 => ?_⟩
  refine ⟨d1, 4, rfl, rfl, .ref p, rfl, 10, 30, rfl, rfl, ⟨by decide, by decide, by decide⟩, p, _, rfl, by rw [big]; decide, lb, r1.pot, fun d2 H2 a2 b2 r2 => ?_⟩
  refine ⟨.ref p, rfl, 10, 30, rfl, rfl, ⟨by decide, by decide, by decide⟩, p, _, rfl, by rw [big]; decide, lb, r2.pot, fun d3 H3 a3 b3 r3 => ?_⟩
  refine ⟨0, d3, rfl, rfl, by show 6 ≤ sizeLine; decide, fun o ho => ?_⟩
  rw [big] at b2 b3
  have r13 := (r1.trans r2).trans r3
  have on : o ≠ p := fun e => by
    obtain ⟨x, y, z, _⟩ := r13.pot
    rw [← e] at z
    rw [z] at ho
    cases ho
  have r4 := r13.trans (Drew.of r13.pot (Ex.new (o := .lst [.int 0, .int 1, .int (-1), .int (d1 - 4), .int d2, .int (0 - d3)]) ho))
  refine ⟨p, r4.pot, .inl ⟨o, _, rfl, on, upd_same, Nat.succ_pos _, by show 6 ≤ 1000; decide, fun v H4 hv r5 => ?_⟩⟩
  simp only [List.mem_cons, List.not_mem_nil, or_false] at hv
  have e30 : (10 : Nat) ^ 30 = 1000000000000000000000000000000 := by decide
  rcases hv with rfl | rfl | rfl | rfl | rfl | rfl <;> refine q _ H4 ?_ (r4.trans r5) <;> rw [e30] <;> omega
end
end Cr
namespace Cr
open PySem PySem.Spec PyProof.Rows L2 Evl
abbrev sName : Stmt := topS 27
abbrev sNames : Stmt := topS 28
abbrev nName : List Str := ["_law_pot_here", "_law_used", "_law_letters", "_law_size", "_law_word", "_law_spare", "_law_turn", "_law_at", "_law_one"]
abbrev nNames : List Str := ["_law_pot_here", "_law_number", "_law_found", "_law_turn"]
theorem scName : FnScope nName ["_law_pot_here", "_law_used"] (defScope sName) := ⟨rfl, rfl, rfl, by decide +kernel, rfl, by decide +kernel, by decide +kernel⟩
theorem scNames : FnScope nNames ["_law_pot_here", "_law_number"] (defScope sNames) := ⟨rfl, rfl, rfl, by decide +kernel, rfl, by decide +kernel, by decide +kernel⟩
/-! ### texts of letters -/
theorem join_cps : ∀ ws : List Str, (Txt.join ("" : Str) ws).cps.toList = ws.flatMap fun w => w.cps.toList := by
  have e0 : (("" : Str)).cps.toList = [] := by decide +kernel
  have h : ∀ ws : List Str, (Str.join ("" : Str) ws).cps.toList = ws.flatMap fun w => w.cps.toList := by
    intro ws
    induction ws with
    | nil => rfl
    | cons x r ih =>
      cases r with
      | nil => simp [Str.join]
      | cons y r =>
        rw [show Str.join ("" : Str) (x :: y :: r) = x ++ "" ++ Str.join "" (y :: r) from rfl, Str.cps_append, Str.cps_append, Array.toList_append, Array.toList_append, ih, e0, List.append_nil]
        simp
  intro ws
  rw [TL.join_eq]
  exact h ws
theorem len_toList (x : Str) : x.cps.toList.length = x.length := by simp [Str.length]
theorem name_of {x : Str} {cs : List Nat} (e : x.cps.toList = cs) (h1 : 1 ≤ cs.length) (h2 : cs.length ≤ 8) (h : ∀ c ∈ cs, isLow c = true) : isNameS x = true := by
  have l := len_toList x
  rw [e] at l
  unfold isNameS
  rw [e, decide_eq_true (show (1 : Int) ≤ x.length by omega), decide_eq_true (show (x.length : Int) ≤ 8 by omega), List.all_eq_true.mpr h]
  rfl
def isOne (w : Str) : Prop := ∃ c, w = ⟨#[c]⟩ ∧ isLow c = true
theorem join_ones : ∀ {ws : List Str}, (∀ w ∈ ws, isOne w) → ∃ cs : List Nat, (ws.flatMap fun w => w.cps.toList) = cs ∧ cs.length = ws.length ∧ ∀ c ∈ cs, isLow c = true
  | [], _ => ⟨[], rfl, rfl, by simp⟩
  | w :: r, h => by
    obtain ⟨c, rfl, hc⟩ := h w (List.mem_cons_self ..)
    obtain ⟨cs, e, l, ha⟩ := join_ones fun w hw => h w (List.mem_cons_of_mem _ hw)
    refine ⟨c :: cs, ?_, by simp [l], ?_⟩
    · rw [List.flatMap_cons, e]; rfl
    · intro d hd
      rcases List.mem_cons.mp hd with rfl | hd
      · exact hc
      · exact ha d hd
abbrev abc : Str := "abcdefghijklmnopqrstuvwxyz"
theorem abc_get (i : Nat) (h : i < 26) : abc.cps.toList[i]? = some (97 + i) := by
  have : ∀ i < 26, abc.cps.toList[i]? = some (97 + i) := by decide +kernel
  exact this i h
theorem low_of {i : Nat} (h : i < 26) : isLow (97 + i) = true := by
  unfold isLow
  rw [decide_eq_true (show 97 ≤ 97 + i by omega), decide_eq_true (show 97 + i ≤ 122 by omega)]; rfl
/-- pigeons -/
theorem pigeon : ∀ {ws us : List Str}, ws.Nodup → (∀ w ∈ ws, w ∈ us) → ws.length ≤ us.length
  | [], _, _, _ => Nat.zero_le _
  | w :: ws, us, nd, h => by
    have hw := h w (List.mem_cons_self ..)
    rw [List.nodup_cons] at nd
    have ih := pigeon (us := us.erase w) nd.2 fun x hx => (List.mem_erase_of_ne (fun e : x = w => nd.1 (by rw [← e]; exact hx))).mpr (h x (List.mem_cons_of_mem _ hx))
    rw [List.length_erase_of_mem hw] at ih
    have : 0 < us.length := List.length_pos_of_mem hw
    rw [List.length_cons]
    omega
def spare (i : Nat) : Str := ⟨#[97 + i / 26, 97 + i % 26, 113]⟩
theorem spare_nd : ((List.range 20).map spare).Nodup := by decide +kernel
theorem spare_name (i : Nat) (h : i < 676) : isNameS (spare i) = true := by
  refine name_of (x := spare i) (cs := [97 + i / 26, 97 + i % 26, 113]) rfl (by simp) (by simp) fun c hc => ?_
  simp only [List.mem_cons, List.not_mem_nil, or_false] at hc
  rcases hc with rfl | rfl | rfl
  · exact low_of (by omega)
  · exact low_of (by omega)
  · rfl
theorem spare_free {us : List Str} (h : us.length ≤ 10) : ∃ i, i < 20 ∧ spare i ∉ us := by
  refine Classical.byContradiction fun n => ?_
  have all : ∀ w ∈ (List.range 20).map spare, w ∈ us := fun w hw => by
    obtain ⟨i, hi, rfl⟩ := List.mem_map.mp hw
    exact Classical.byContradiction fun z => n ⟨i, List.mem_range.mp hi, z⟩
  have := pigeon spare_nd all
  rw [List.length_map, List.length_range] at this
  omega
theorem inV_mem {z : Str} {us : List Str} : inV (.str z) (us.map V.str) = true ↔ z ∈ us := by
  rw [inV_strs, List.any_eq_true]
  constructor
  · rintro ⟨x, hx, e⟩
    rw [beq_iff_eq] at e
    exact e ▸ hx
  · intro h
    exact ⟨z, h, beq_self_eq_true z⟩
theorem Drew.mut {p D : Addr} {H H' : Hp} {o : HO} (d : Drew p H H') (hD : H D = none) (n : D ≠ p) : Drew p H (upd H' D o) := by
  refine ⟨fun a u h => ?_, ?_⟩
  · have hn := (wo_some h).1
    have hD' : a ≠ D := ne_of_none (wo_some h).2 hD
    have q := d.ex a u h
    rw [wo_ne hn] at q ⊢
    rw [upd_ne hD']
    exact q
  · obtain ⟨x, y, z, r⟩ := d.pot
    exact ⟨x, y, by rw [upd_ne n.symm]; exact z, r⟩
theorem Drew.neq {p q : Addr} {H H' : Hp} (d : Drew p H H') (h : H' q = none) : q ≠ p := fun e => by
  obtain ⟨x, y, z, _⟩ := d.pot
  rw [← e, h] at z
  cases z

/-- a name that is not among the used ones -/
def spName : Sp := fun vs H Q _ => ∃ (p u : Addr) (us : List Str), vs = [.ref p, .ref u] ∧ Pot H p ∧ u ≠ p ∧ H u = some (.lst (us.map V.str)) ∧ us.length ≤ 10 ∧ ∀ x H', isNameS x = true → Drew p H H' → Q (.str x) H'
def spNames : Sp := fun vs H Q _ => ∃ (p : Addr) (n : Nat), vs = [.ref p, .int (n : Int)] ∧ Pot H p ∧ n ≤ 10 ∧
  ∀ (l : Addr) (xs : List Str) (H' : Hp), H l = none → H' l = some (.lst (xs.map V.str)) → xs.length = n → (∀ x ∈ xs, isNameS x = true) → Drew p H H' → Q (.ref l) H'
section
variable {P : Program} {w : World} {K : PySem.W.Frag} {mg : Str → Option Value} {base : Heap}
theorem ok_name {f : Addr} {fd : FuncData} {k : Nat} (F : Fun K "_law_name" "_law_name" sName f fd) (B : Blt mg) (D : Has P w K mg base k "_law_draw" ["_law_pot_here", "_law_most"] spDraw) :
    FnG P w K mg base CX0 (k + 1) f fd ["_law_pot_here", "_law_used"] spName := by
  obtain ⟨fD, fdD, GD, bD, kD, gD⟩ := D.ex
  refine okG F scName (fun vs H Q E h => by obtain ⟨_, _, _, rfl, _⟩ := h; rfl) (fun cdv A outer s H vs Q E hq hr h => ?_)
  obtain ⟨p, u, us, rfl, pot, un, hu, hl, q⟩ := h
  refine ⟨_, pss_cons (ps_set (i := 2) scName.nd rfl (.inr rfl) pe_str)
    (pss_cons (ps_set (i := 3) scName.nd rfl (.inl rfl) (pe_ix ix_list (pe_lst (pa_cons pe_int (pa_cons pe_int (pa_cons pe_int (pa_cons pe_int (pa_cons (pe_op op_add pe_int (callG GD hq hr (by rfl) gD kD bD .nil pass0 (pa_cons (pv 0) (pa_cons pe_int pa_nil)))) pa_nil))))))
        (callG GD hq hr (by rfl) gD kD bD .nil pass0 (pa_cons (pv 0) (pa_cons pe_int pa_nil))) (fun _ _ => rfl)))
    (pss_cons (ps_set (i := 4) scName.nd rfl (.inl rfl) (pe_join pe_str (pe_lc (own := [("_law_turn", 6)]) (g := gName 6) (tt := tYes) rfl scName.nd (pi_range1 (by rfl) B.range (pa_cons (pv 3) pa_nil)) (blkOk_by (own := [("_law_turn", 6)]) (N := nName) (sc := defScope sName) (by decide +kernel))
        (fun _ _ _ _ _ => pg_name (i := 6) scName.nd rfl (Or.inl rfl)) (fun _ _ _ _ _ => pts_nil) (fun _ _ _ _ _ => pe_ix ix_str (pv 2) (callG GD hq hr (by rfl) gD kD bD .nil pass0 (pa_cons (pv 0) (pa_cons pe_int pa_nil))) (fun _ _ => rfl)))))
    (pss_cut (ps_if (pt_cmpR op_eq (callG GD hq hr (by rfl) gD kD bD .nil pass0 (pa_cons (pv 0) (pa_cons pe_int pa_nil))) pe_int (nomark _))
        (pss_one (ps_set (i := 4) scName.nd rfl (.inl rfl) (pe_ix ix_list (pe_lst (pa_cons pe_str (pa_cons pe_str (pa_cons pe_str (pa_cons pe_str (pa_cons pe_str (pa_cons pe_str (pa_cons pe_str (pa_cons pe_str pa_nil)))))))))
          (callG GD hq hr (by rfl) gD kD bD .nil pass0 (pa_cons (pv 0) (pa_cons pe_int pa_nil))) (fun _ _ => rfl)))) pss_nil)
    (pss_cons (ps_if (pt_cmpR op_notIn_seq (pv 4) (pv 1) (by rfl)) (pss_one (ps_ret (pv 4))) pss_nil)
    (pss_cons (ps_setLc (i := 5) (own := [("_law_at", 7)]) (g := gName 7) (tt := tYes) rfl scName.nd rfl rfl (sw_true rfl rfl rfl (by decide +kernel)) (pi_range1 (by rfl) B.range (pa_cons pe_int pa_nil)) (blkOk_by (own := [("_law_at", 7)]) (N := nName) (sc := defScope sName) (by decide +kernel))
        (fun _ _ _ _ _ => pg_name (i := 7) scName.nd rfl (Or.inl rfl)) (fun _ _ _ _ _ => pts_nil)
        (fun _ _ _ _ _ => pe_op op_add_str (pe_op op_add_str (pe_ix ix_str (pv 2) (pe_op op_fdiv (pv 7) pe_int) (fun _ _ => rfl)) (pe_ix ix_str (pv 2) (pe_op op_mod (pv 7) pe_int) (fun _ _ => rfl))) pe_str))
    (pss_one (ps_ret (pe_ix ix_list (pe_lc (own := [("_law_one", 8)]) (g := gName 8) (tt := tTest (tOp (rIn K true) (tVar 8) (tVar 1))) rfl scName.nd (pi_list (pv 5)) (blkOk_by (own := [("_law_one", 8)]) (N := nName) (sc := defScope sName) (by decide +kernel))
        (fun _ _ _ _ _ => pg_name (i := 8) scName.nd rfl (Or.inl rfl)) (fun _ _ _ _ _ => by exact pts_one (pt_cmpR op_notIn_seq (pv 8) (pv 1) (by rfl))) (fun _ _ _ _ _ => pv 8)) pe_int (fun _ _ => rfl))))))))), ?_⟩
  -- the size
  refine ⟨.ref p, rfl, p, 8, rfl, by decide, by decide +kernel, pot, fun d1 H1 a1 b1 r1 => ?_⟩
  refine ⟨1, d1, rfl, rfl, by show 5 ≤ sizeLine; decide, fun o ho => ?_⟩
  have on : o ≠ p := r1.neq ho
  have r2 := r1.trans (Drew.of r1.pot (Ex.new (o := .lst [.int 1, .int 1, .int 2, .int 8, .int (1 + d1)]) ho))
  refine ⟨.ref p, rfl, p, 5, rfl, by decide, by decide +kernel, r2.pot, fun d2 H2 a2 b2 r3 => ?_⟩
  obtain ⟨sz, hsz, s1, s8⟩ : ∃ sz : Nat, atI [V.int 1, V.int 1, V.int 2, V.int 8, V.int (1 + d1)] d2 = some (.int (sz : Int)) ∧ 1 ≤ sz ∧ sz ≤ 8 := by
    obtain ⟨j, rfl⟩ := Int.eq_ofNat_of_zero_le a2
    have hj : j = 0 ∨ j = 1 ∨ j = 2 ∨ j = 3 ∨ j = 4 := by omega
    rcases hj with rfl | rfl | rfl | rfl | rfl
    · exact ⟨1, atI_nat rfl, by omega, by omega⟩
    · exact ⟨1, atI_nat rfl, by omega, by omega⟩
    · exact ⟨2, atI_nat rfl, by omega, by omega⟩
    · exact ⟨8, atI_nat rfl, by omega, by omega⟩
    · refine ⟨(1 + d1).toNat, atI_nat (v := V.int (1 + d1)) rfl |>.trans ?_, by omega, by omega⟩
      congr 2; omega
  refine ⟨o, _, d2, .int sz, rfl, rfl, sq_of (r3.at on upd_same), hsz, ?_⟩
  have r13 := r2.trans r3
  -- the letters
  refine ⟨⟨"", rfl⟩, .int sz, rfl, sz, rfl, by omega, by omega, fun D hD => ?_⟩
  have Dn : D ≠ p := r13.neq hD
  have HD : H D = none := fresh_drew r13 pot hD
  refine lc_range (lo := 0) (n := (sz : Int).toNat) (fun i H3 => ∃ ws : List Str, H3 D = some (.lst (ws.map V.str)) ∧ ws.length = i ∧ (∀ w ∈ ws, isOne w) ∧ Drew p H H3)
    ⟨[], upd_same, rfl, by simp, r13.mut HD Dn⟩ (fun i H3 hi hP => ?_) (fun H3 hP => ?_)
  · obtain ⟨ws, hw, hlw, hone, dr⟩ := hP
    refine ⟨rfl, .str abc, rfl, .ref p, rfl, p, 26, rfl, by decide, by decide +kernel, dr.pot, fun d H4 da db dr4 => ?_⟩
    obtain ⟨j, rfl⟩ := Int.eq_ofNat_of_zero_le da
    have hj : j < 26 := by omega
    refine ⟨abc, (j : Int), 97 + j, rfl, rfl, by decide +kernel, atI_nat (abc_get j hj), ws.map V.str, dr4.at Dn hw, sz_lt (by rw [List.length_map]; omega), ws ++ [⟨#[97 + j]⟩], ?_, by simp [hlw], ?_, (dr.trans dr4).mut HD Dn⟩
    · rw [upd_same, List.map_append]; rfl
    · intro w hw'
      rcases List.mem_append.mp hw' with z | z
      · exact hone w z
      · rw [List.mem_singleton.mp z]
        exact ⟨97 + j, rfl, low_of hj⟩
  obtain ⟨ws, hw, hlw, hone, dr⟩ := hP
  obtain ⟨cs, ecs, lcs, hcs⟩ := join_ones hone
  have nm : isNameS (Txt.join "" ws) = true := name_of ((join_cps ws).trans ecs) (by omega) (by omega) hcs
  have lone : ∀ {ws : List Str}, (∀ w ∈ ws, isOne w) → (ws.map (·.length)).sum = ws.length := by
    intro ws
    induction ws with
    | nil => intro _; rfl
    | cons x r ih =>
      intro h
      obtain ⟨c, rfl, _⟩ := h _ (List.mem_cons_self ..)
      rw [List.map_cons, List.sum_cons, ih fun w hw => h w (List.mem_cons_of_mem _ hw), List.length_cons]
      show 1 + r.length = r.length + 1
      omega
  refine ⟨"", D, ws, rfl, rfl, .inl (sq_of hw), ?_, ?_⟩
  · have e0 : (("" : Str)).length = 0 := by decide +kernel
    rw [lone hone, e0]
    omega
  -- another word, perhaps
  refine q_cut (M := fun σ H4 => ∃ x : Str, isNameS x = true ∧ σ = [some (.ref p), some (.ref u), some (.str abc), some (.int sz), some (.str x), none, none, none, none] ∧ Drew p H H4) ?_ ?_
  · refine ⟨.ref p, rfl, p, 12, rfl, by decide, by decide +kernel, dr.pot, fun d H4 da db dr4 => ?_⟩
    refine ⟨rfl, _, rfl, ite2 (fun _ => ?_) (fun _ => ⟨_, nm, rfl, dr.trans dr4⟩)⟩
    refine ⟨by show 8 ≤ sizeLine; decide, fun o2 ho2 => ?_⟩
    have on2 : o2 ≠ p := (dr.trans dr4).neq ho2
    have d5 := (dr.trans dr4).trans (Drew.of (dr.trans dr4).pot (Ex.new (o := .lst [.str "module", .str "need", .str "try", .str "set", .str "a", .str "b", .str "fail", .str "thread"]) ho2))
    refine ⟨.ref p, rfl, p, 8, rfl, by decide, by decide +kernel, d5.pot, fun d' H5 da' db' dr5 => ?_⟩
    obtain ⟨j, rfl⟩ := Int.eq_ofNat_of_zero_le da'
    have hj : j = 0 ∨ j = 1 ∨ j = 2 ∨ j = 3 ∨ j = 4 ∨ j = 5 ∨ j = 6 ∨ j = 7 := by omega
    have h5 := sq_of (K := K) (dr5.at on2 upd_same)
    have d6 := d5.trans dr5
    rcases hj with rfl | rfl | rfl | rfl | rfl | rfl | rfl | rfl
    · exact ⟨o2, _, _, .str "module", rfl, rfl, h5, atI_nat (j := 0) rfl, "module", by decide +kernel, rfl, d6⟩
    · exact ⟨o2, _, _, .str "need", rfl, rfl, h5, atI_nat (j := 1) rfl, "need", by decide +kernel, rfl, d6⟩
    · exact ⟨o2, _, _, .str "try", rfl, rfl, h5, atI_nat (j := 2) rfl, "try", by decide +kernel, rfl, d6⟩
    · exact ⟨o2, _, _, .str "set", rfl, rfl, h5, atI_nat (j := 3) rfl, "set", by decide +kernel, rfl, d6⟩
    · exact ⟨o2, _, _, .str "a", rfl, rfl, h5, atI_nat (j := 4) rfl, "a", by decide +kernel, rfl, d6⟩
    · exact ⟨o2, _, _, .str "b", rfl, rfl, h5, atI_nat (j := 5) rfl, "b", by decide +kernel, rfl, d6⟩
    · exact ⟨o2, _, _, .str "fail", rfl, rfl, h5, atI_nat (j := 6) rfl, "fail", by decide +kernel, rfl, d6⟩
    · exact ⟨o2, _, _, .str "thread", rfl, rfl, h5, atI_nat (j := 7) rfl, "thread", by decide +kernel, rfl, d6⟩
  rintro σ H4 ⟨x, nx, rfl, d4⟩
  have hu4 := d4.at un hu
  refine q_when (et_test (ev_op (ev_var rfl) (ev_var rfl) (rv_niL (sq_of hu4) rfl (flat_strs _)))) (fun hb H5 e5 => s_ret (ev_var rfl) fun H6 e6 => q x H6 nx (d4.trans (Drew.of d4.pot (e5.trans e6)))) (fun hb H5 e5 => ?_)
  -- the spare ones
  have fd : (676 : Int).toNat = 676 := rfl
  have lc1 := el_lcW (wi := iRng1 (tCons (tC (.int 676)) tNil)) (g := gName 7) (tt := tYes) (te := tOp _ (tOp _ (tOp rIxS (tVar 2) (tOp (rI CDiv fun i j => .int (i / j)) (tVar 7) (tC (.int 26)))) (tOp rIxS (tVar 2) (tOp (rI (fun _ j => 0 < j) fun i j => .int (i % j)) (tVar 7) (tC (.int 26))))) (tC (.str "q"))) (vs := [7])
    (σ := [some (.ref p), some (.ref u), some (.str abc), some (.int sz), some (.str x), none, none, none, none]) (H := H5) (n := 676) (Y := YFn fun i => .int (0 + i)) (fun _ => true) (fun i => .str (spare i)) (by decide)
    (fun H6 e6 R r => ⟨676, rfl, by decide, by decide, r H6 _ _ walk_range (fun _ _ _ z => z) (Ex.refl H6) trivial⟩)
    (fun i y H6 H7 e6 hi hy => by
      obtain ⟨rfl, rfl⟩ := hy
      refine ⟨Ex.refl _, [some (.ref p), some (.ref u), some (.str abc), some (.int sz), some (.str x), none, none, some (.int (0 + i)), none], rfl, fun R r => r, fun H8 _ Q q => q H8 (Ex.refl H8), fun _ => ?_⟩
      have e0 : (0 : Int) + (i : Int) = (i : Int) := Int.zero_add _
      rw [e0]
      have ed : ((i : Int) / 26) = ((i / 26 : Nat) : Int) := by omega
      have em : ((i : Int) % 26) = ((i % 26 : Nat) : Int) := by omega
      have i1 : i / 26 < 26 := by omega
      have i2 : i % 26 < 26 := by omega
      refine ev_op (r := fun x y H Q => ∃ i j, x = .str i ∧ y = .str j ∧ i.length + j.length ≤ sizeLine ∧ Q (.str (i ++ j)) H) (x := .str (⟨#[97 + i / 26]⟩ ++ ⟨#[97 + i % 26]⟩))
        (ev_op (r := fun x y H Q => ∃ i j, x = .str i ∧ y = .str j ∧ i.length + j.length ≤ sizeLine ∧ Q (.str (i ++ j)) H)
          (ev_op (ev_var rfl) (ev_op (ev_var rfl) ev_c (rv_I ⟨by decide, by decide⟩)) (rv_ixS (by decide +kernel) (by rw [ed]; exact atI_nat (abc_get _ i1))))
          (ev_op (ev_var rfl) (ev_op (ev_var rfl) ev_c (rv_I (C := fun _ j => 0 < j) (by decide))) (rv_ixS (by decide +kernel) (by rw [em]; exact atI_nat (abc_get _ i2))))
          (rv_val fun H8 _ Q q => ⟨_, _, rfl, rfl, by show 2 ≤ sizeLine; decide, q⟩)) ev_c (rv_val fun H8 _ Q q => ⟨_, _, rfl, rfl, by show 3 ≤ sizeLine; decide, q⟩))
  have eg1 : given 676 (fun _ => true) (fun i => V.str (spare i)) = ((List.range 676).map spare).map V.str := by
    rw [given_all, List.map_map]; rfl
  rw [eg1] at lc1
  refine q_asgL lc1 fun L H6 hL e6 h6 => ?_
  have hu6 := e6 _ _ (e5 _ _ hu4)
  have lc2 := el_lcW (wi := iList K (tVar 5)) (g := gName 8) (tt := tTest (tOp (rIn K true) (tVar 8) (tVar 1))) (te := tVar 8) (vs := [8])
    (σ := [some (.ref p), some (.ref u), some (.str abc), some (.int sz), some (.str x), some (.ref L), none, none, none]) (H := H6) (n := 676) (Y := YAt (((List.range 676).map spare).map V.str)) (fun i => !inV (.str (spare i)) (us.map V.str)) (fun i => .str (spare i)) (by decide)
    (fun H7 e7 R r => ⟨.ref L, rfl, L, rfl, ⟨_, sq_of (e7 _ _ h6)⟩, r H7 _ _ (by have z := walk_list (K := K) (a := L) (xs := ((List.range 676).map spare).map V.str); rw [List.length_map, List.length_map, List.length_range] at z; exact z) (fun _ _ e z => ex_l e z) (Ex.refl H7) (sq_of (e7 _ _ h6))⟩)
    (fun i y H7 H8 e7 hi hy => by
      obtain ⟨rfl, hy⟩ := hy
      have ey : y = .str (spare i) := by
        rw [List.getElem?_map, List.getElem?_map, List.getElem?_range hi] at hy
        exact (Option.some.inj hy).symm
      subst ey
      exact ⟨Ex.refl _, [some (.ref p), some (.ref u), some (.str abc), some (.int sz), some (.str x), some (.ref L), none, none, some (.str (spare i))], rfl, fun R r => r, et_test (ev_op (ev_var rfl) (ev_var rfl) (rv_niL (sq_of (e7 _ _ hu6)) rfl (flat_strs _))), fun _ => ev_var rfl⟩)
  obtain ⟨i0, hi0, fi0⟩ := spare_free hl
  have mem : V.str (spare i0) ∈ given 676 (fun i => !inV (.str (spare i)) (us.map V.str)) (fun i => .str (spare i)) := by
    unfold given
    refine List.mem_map.mpr ⟨i0, List.mem_filter.mpr ⟨List.mem_range.mpr (by omega), ?_⟩, rfl⟩
    rw [Bool.not_eq_true']
    exact Bool.eq_false_iff.mpr fun z => fi0 (inV_mem.mp z)
  cases eg : given 676 (fun i => !inV (.str (spare i)) (us.map V.str)) (fun i => V.str (spare i)) with
  | nil => rw [eg] at mem; cases mem
  | cons y r =>
    have hy : y ∈ given 676 (fun i => !inV (.str (spare i)) (us.map V.str)) (fun i => V.str (spare i)) := by rw [eg]; exact List.mem_cons_self ..
    unfold given at hy
    obtain ⟨i1, h1, rfl⟩ := List.mem_map.mp hy
    have hi1 : i1 < 676 := List.mem_range.mp (List.mem_filter.mp h1).1
    rw [eg] at lc2
    refine s_ret (ev_opL1 lc2 (fun _ _ => ev_c) fun p2 H7 hp2 _ => rv_ixL (sq_of hp2) (atI_nat (j := 0) rfl)) fun H7 e7 => ?_
    exact q _ H7 (spare_name i1 hi1) (d4.trans (Drew.of d4.pot ((e5.trans e6).trans e7)))
end
end Cr
namespace Cr
open PySem PySem.Spec PyProof.Rows L2 Evl
abbrev sStep : Stmt := topS 30
abbrev nStep : List Str := ["_law_pot_here", "_law_modules", "_law_names_here", "_law_after", "_law_word", "_law_x", "_law_y", "_law_module", "_law_name_here", "_law_steps"]
theorem scStep : FnScope nStep ["_law_pot_here", "_law_modules", "_law_names_here", "_law_after"] (defScope sStep) := ⟨rfl, rfl, rfl, by decide +kernel, rfl, by decide +kernel, by decide +kernel⟩
/-! ### flat values -/
/-! ### the steps -/
/-- one step over drawn names -/
def spStep : Sp := fun vs H Q _ => ∃ (p m nm : Addr) (ms ns : List Str) (a : Nat), vs = [.ref p, .ref m, .ref nm, .int (a : Int)] ∧ Pot H p ∧ m ≠ p ∧ nm ≠ p ∧ H m = some (.lst (ms.map V.str)) ∧ H nm = some (.lst (ns.map V.str)) ∧
  (0 < ms.length ∧ ms.length ≤ 10 ∧ 0 < ns.length ∧ ns.length ≤ 10 ∧ (∀ x ∈ ms, isNameS x = true) ∧ (∀ x ∈ ns, isNameS x = true) ∧ a ≤ 1000) ∧
  ∀ (t : Addr) (xs : List V) (H' : Hp), H t = none → H' t = some (.tup xs) → StepOk xs → Drew p H H' → Q (.ref t) H'
section
variable {P : Program} {w : World} {K : PySem.W.Frag} {mg : Str → Option Value} {base : Heap}
theorem ok_names {f : Addr} {fd : FuncData} {k : Nat} (F : Fun K "_law_names" "_law_names" sNames f fd) (B : Blt mg) (N : Has P w K mg base k "_law_name" ["_law_pot_here", "_law_used"] spName) :
    FnG P w K mg base CX0 (k + 1) f fd ["_law_pot_here", "_law_number"] spNames := by
  obtain ⟨fN, fdN, GN, bN, kN, gN⟩ := N.ex
  refine okG F scNames (fun vs H Q E h => by obtain ⟨_, _, rfl, _⟩ := h; rfl) (fun cdv A outer s H vs Q E hq hr h => ?_)
  obtain ⟨p, n, rfl, pot, hn, q⟩ := h
  refine ⟨_, pss_cons (ps_set (i := 2) scNames.nd rfl (.inl rfl) (pe_lst pa_nil))
    (pss_cons (ps_for PassesOwn.never rfl (pi_range1 (by rfl) B.range (pa_cons (pv 1) pa_nil)) (pg_name (i := 3) scNames.nd rfl (.inl rfl))
      (pss_one (ps_expr (pe_bm PySem.F.plainAttrs_list PySem.F.slot_list_append PySem.F.type_list_append mt_append (pv 2) (pa_cons (callG GN hq hr (by rfl) gN kN bN .nil pass0 (pa_cons (pv 0) (pa_cons (pv 2) pa_nil))) pa_nil)))))
    (pss_one (ps_ret (pv 2)))), ?_⟩
  refine ⟨Nat.zero_le _, fun l hl => ?_⟩
  have d0 : Drew p H (upd H l (.lst [])) := Drew.of pot (Ex.new hl)
  have ln : l ≠ p := fun e => by
    obtain ⟨x, y, z, _⟩ := pot
    rw [← e, hl] at z
    cases z
  refine ⟨.int n, rfl, n, rfl, by omega, by omega, for_range (lo := 0) (n := (n : Int).toNat) (fun i σ H' => ∃ y3 xs, σ = [some (.ref p), some (.int n), some (.ref l), y3] ∧ H' l = some (.lst ((xs : List Str).map V.str)) ∧ xs.length = i ∧ (∀ x ∈ xs, isNameS x = true) ∧ Drew p H H')
    ⟨none, [], rfl, upd_same, rfl, by simp, d0⟩ (fun i σ H1 hi hP => ?_) (fun σ H1 hP => ?_)⟩
  · obtain ⟨y3, xs, rfl, h1, lx, hx, dr⟩ := hP
    refine ⟨.ref l, rfl, .inl ⟨rfl, _, sq_of h1⟩, .ref p, rfl, .ref l, rfl, p, l, xs, rfl, dr.pot, ln, h1, by omega, fun x H2 nx dr2 => ?_⟩
    refine ⟨l, _, .str x, rfl, rfl, dr2.at ln h1, sz_lt (by rw [List.length_map]; omega), _, xs ++ [x], rfl, ?_, by simp [lx], ?_, (dr.trans dr2).mut hl ln⟩
    · rw [upd_same, List.map_append]; rfl
    · intro y hy
      rcases List.mem_append.mp hy with z | z
      · exact hx y z
      · rw [List.mem_singleton.mp z]; exact nx
  · obtain ⟨y3, xs, rfl, h1, lx, hx, dr⟩ := hP
    exact ⟨.ref l, rfl, q l xs H1 hl h1 (by omega) hx dr⟩

theorem ok_step {f : Addr} {fd : FuncData} {k : Nat} (F : Fun K "_law_step" "_law_step" sStep f fd) (B : Blt mg) (D : Has P w K mg base k "_law_draw" ["_law_pot_here", "_law_most"] spDraw)
    (C : Has P w K mg base k "_law_choice" ["_law_pot_here", "_law_options"] spChoice) (I : Has P w K mg base k "_law_integer" ["_law_pot_here"] spInteger) :
    FnG P w K mg base CX0 (k + 1) f fd ["_law_pot_here", "_law_modules", "_law_names_here", "_law_after"] spStep := by
  obtain ⟨fD, fdD, GD, bD, kD, gD⟩ := D.ex
  obtain ⟨fC, fdC, GC, bC, kC, gC⟩ := C.ex
  obtain ⟨fI, fdI, GI, bI, kI, gI⟩ := I.ex
  refine okG F scStep (fun vs H Q E h => by obtain ⟨_, _, _, _, _, _, rfl, _⟩ := h; rfl) (fun cdv A outer s H vs Q E hq hr h => ?_)
  obtain ⟨p, m, nm, ms, ns, a, rfl, pot, mp, np, hm, hn, ⟨m0, m1, n0, n1, hms, hns, ha⟩, q⟩ := h
  refine ⟨_, pss_cons (ps_par3 rfl scStep.nd (i := 4) (j := 5) (l := 6) rfl rfl rfl (by decide) (by decide) (by decide) rfl rfl rfl
      (pa_cons (callG GD hq hr (by rfl) gD kD bD .nil pass0 (pa_cons (pv 0) (pa_cons pe_int pa_nil))) (pa_cons (callG GC hq hr (by rfl) gC kC bC .nil pass0 (pa_cons (pv 0) (pa_cons pe_str pa_nil))) (pa_cons (callG GC hq hr (by rfl) gC kC bC .nil pass0 (pa_cons (pv 0) (pa_cons pe_str pa_nil))) pa_nil))) (by rfl))
    (pss_cons (ps_par rfl scStep.nd (i := 7) (j := 8) rfl rfl (by decide) rfl rfl (pa_cons (callG GC hq hr (by rfl) gC kC bC .nil pass0 (pa_cons (pv 0) (pa_cons (pv 1) pa_nil))) (pa_cons (callG GC hq hr (by rfl) gC kC bC .nil pass0 (pa_cons (pv 0) (pa_cons (pv 2) pa_nil))) pa_nil)) (by rfl))
    (pss_cons (ps_if (PW.pt (pw_and (pt_cmpR op_eq (pv 4) pe_int (nomark _)) (pw_and1 (pt_cmpR op_gt (pv 3) pe_int (nomark _)))))
      (pss_one (ps_ret (pe_tup (pa_cons pe_str (pa_cons (pv 5) (pa_cons (pe_op op_add pe_int (callG GD hq hr (by rfl) gD kD bD .nil pass0 (pa_cons (pv 0) (pa_cons (pv 3) pa_nil)))) pa_nil)))))) pss_nil)
    (pss_cons (ps_set (i := 9) scStep.nd rfl (.inl rfl) (pe_lst (pa_cons (pe_tup (pa_cons pe_str (pa_cons (pv 5) (pa_cons (callG GI hq hr (by rfl) gI kI bI .nil pass0 (pa_cons (pv 0) pa_nil)) pa_nil))))
      (pa_cons (pe_tup (pa_cons pe_str (pa_cons (pv 5) (pa_cons (pv 6) pa_nil)))) (pa_cons (pe_tup (pa_cons pe_str (pa_cons (pv 7) pa_nil))) (pa_cons (pe_tup (pa_cons pe_str (pa_cons (pv 8) (pa_cons (pv 5) pa_nil)))) pa_nil))))))
    (pss_one (ps_ret (pe_ix ix_list (pe_op op_cat (pv 9) (pe_lst (pa_cons (pe_tup (pa_cons pe_str (pa_cons (pv 5) (pa_cons (pv 7) (pa_cons (pv 8) pa_nil))))) (pa_cons (pe_tup (pa_cons pe_str (pa_cons (pv 7) pa_nil)))
      (pa_cons (pe_tup (pa_cons pe_str (pa_cons (pv 7) (pa_cons (pv 5) pa_nil)))) (pa_cons (pe_tup (pa_cons pe_str pa_nil)) pa_nil)))))) (pv 4) (fun _ _ => rfl))))))), ?_⟩
  have l4 : 0 < (("abcd" : Str)).length ∧ (("abcd" : Str)).length ≤ 1000 := by decide +kernel
  refine ⟨.ref p, rfl, p, 8, rfl, by decide, by decide +kernel, pot, fun wd H1 w0 w8 r1 => ?_⟩
  refine ⟨.ref p, rfl, p, r1.pot, .inr ⟨"abcd", rfl, l4.1, l4.2, fun cx H2 hcx r2 => ?_⟩⟩
  refine ⟨.ref p, rfl, p, r2.pot, .inr ⟨"abcd", rfl, l4.1, l4.2, fun cy H3 hcy r3 => ?_⟩⟩
  have vx := var_of hcx
  have vy := var_of hcy
  generalize (⟨#[cx]⟩ : Str) = x at vx
  generalize (⟨#[cy]⟩ : Str) = y at vy
  have r13 := (r1.trans r2).trans r3
  refine ⟨_, _, _, rfl, ?_⟩
  refine ⟨.ref p, rfl, .ref m, rfl, p, r13.pot, .inl ⟨m, ms.map V.str, rfl, mp, r13.at mp hm, by rw [List.length_map]; exact m0, by rw [List.length_map]; omega, fun v7 H4 hv7 r4 => ?_⟩⟩
  have r14 := r13.trans r4
  refine ⟨.ref p, rfl, .ref nm, rfl, p, r14.pot, .inl ⟨nm, ns.map V.str, rfl, np, r14.at np hn, by rw [List.length_map]; exact n0, by rw [List.length_map]; omega, fun v8 H5 hv8 r5 => ?_⟩⟩
  have r15 := r14.trans r5
  obtain ⟨md, hmd, rfl⟩ := List.mem_map.mp hv7
  obtain ⟨ne, hne, rfl⟩ := List.mem_map.mp hv8
  have nmd := hms md hmd
  have nne := hns ne hne
  refine ⟨_, _, rfl, ?_⟩
  have fin : ∀ (t : Addr) (xs : List V) (H' : Hp), H5 t = none → H' t = some (.tup xs) → StepOk xs → Drew p H5 H' → Q (.ref t) H' := fun t xs H' h1 h2 h3 h4 => q t xs H' (fresh_drew r15 pot h1) h2 h3 (r15.trans h4)
  have rest : ∀ H6, Ex H5 H6 → tSeq (tAsg (tLst (tCons (tTup (tCons (tC (.str "set")) (tCons (tVar 5) (tCons (tCall spInteger [] E0 (tCons (tVar 0) tNil)) tNil))))
      (tCons (tTup (tCons (tC (.str "add")) (tCons (tVar 5) (tCons (tVar 6) tNil)))) (tCons (tTup (tCons (tC (.str "need")) (tCons (tVar 7) tNil))) (tCons (tTup (tCons (tC (.str "export")) (tCons (tVar 8) (tCons (tVar 5) tNil)))) tNil))))) (gName 9))
      (tRet (tOp (rIxL K) (tOp rCat (tVar 9) (tLst (tCons (tTup (tCons (tC (.str "read")) (tCons (tVar 5) (tCons (tVar 7) (tCons (tVar 8) tNil))))) (tCons (tTup (tCons (tC (.str "need")) (tCons (tVar 7) tNil)))
      (tCons (tTup (tCons (tC (.str "try")) (tCons (tVar 7) (tCons (tVar 5) tNil)))) (tCons (tTup (tCons (tC (.str "fail")) tNil)) tNil)))))) (tVar 4))) { nx := fun _ H' => Q .non H', rt := Q }
      [some (.ref p), some (.ref m), some (.ref nm), some (.int a), some (.int wd), some (.str x), some (.str y), some (.str md), some (.str ne), none] H6 := by
    intro H6 e6
    have p6 := r15.pot.ex e6
    refine ⟨.str x, rfl, .ref p, rfl, p, rfl, p6, fun i H7 hi r7 => ?_⟩
    have d7 : Drew p H5 H7 := (Drew.of r15.pot e6).trans r7
    refine ⟨by show 3 ≤ sizeLine; decide, fun t1 z1 => ?_⟩
    refine ⟨.str x, rfl, .str y, rfl, by show 3 ≤ sizeLine; decide, fun t2 z2 => ?_⟩
    refine ⟨.str md, rfl, by show 2 ≤ sizeLine; decide, fun t3 z3 => ?_⟩
    refine ⟨.str ne, rfl, .str x, rfl, by show 3 ≤ sizeLine; decide, fun t4 z4 => ?_⟩
    refine ⟨by show 4 ≤ sizeLine; decide, fun l1 z5 => ?_⟩
    refine ⟨.ref l1, rfl, .str x, rfl, .str md, rfl, .str ne, rfl, by show 4 ≤ sizeLine; decide, fun t5 z6 => ?_⟩
    refine ⟨.str md, rfl, by show 2 ≤ sizeLine; decide, fun t6 z7 => ?_⟩
    refine ⟨.str md, rfl, .str x, rfl, by show 3 ≤ sizeLine; decide, fun t7 z8 => ?_⟩
    refine ⟨by show 1 ≤ sizeLine; decide, fun t8 z9 => ?_⟩
    refine ⟨by show 4 ≤ sizeLine; decide, fun l2 z10 => ?_⟩
    have e1 := Ex.new (o := .tup [.str "set", .str x, .int i]) z1
    have e2 := Ex.new (o := .tup [.str "add", .str x, .str y]) z2
    have e3 := Ex.new (o := .tup [.str "need", .str md]) z3
    have e4 := Ex.new (o := .tup [.str "export", .str ne, .str x]) z4
    have e5 := Ex.new (o := .lst [.ref t1, .ref t2, .ref t3, .ref t4]) z5
    have e6' := Ex.new (o := .tup [.str "read", .str x, .str md, .str ne]) z6
    have e7 := Ex.new (o := .tup [.str "need", .str md]) z7
    have e8 := Ex.new (o := .tup [.str "try", .str md, .str x]) z8
    have e9 := Ex.new (o := .tup [.str "fail"]) z9
    have e10 := Ex.new (o := .lst [.ref t5, .ref t6, .ref t7, .ref t8]) z10
    have c9 := e9.trans e10
    have c8 := e8.trans c9
    have c7 := e7.trans c8
    have c6 := e6'.trans c7
    have c5 := e5.trans c6
    have c4 := e4.trans c5
    have c3 := e3.trans c4
    have c2 := e2.trans c3
    have c1 := e1.trans c2
    refine ⟨l1, l2, _, _, rfl, rfl, c6 _ _ upd_same, upd_same, by show 8 ≤ sizeLine; decide, fun l3 z11 => ?_⟩
    have e11 := Ex.new (o := .lst [.ref t1, .ref t2, .ref t3, .ref t4, .ref t5, .ref t6, .ref t7, .ref t8]) z11
    have all := c1.trans e11
    have dr := d7.trans (Drew.of d7.pot all)
    have fr : ∀ {q : Addr}, H7 q = none → H5 q = none := fun h => fresh_drew d7 r15.pot h
    obtain ⟨j, rfl⟩ := Int.eq_ofNat_of_zero_le w0
    have hj : j = 0 ∨ j = 1 ∨ j = 2 ∨ j = 3 ∨ j = 4 ∨ j = 5 ∨ j = 6 ∨ j = 7 := by omega
    refine ⟨.int (j : Int), rfl, ?_⟩
    rcases hj with rfl | rfl | rfl | rfl | rfl | rfl | rfl | rfl
    · exact ⟨l3, _, _, .ref t1, rfl, rfl, sq_of upd_same, atI_nat (j := 0) rfl, fin t1 _ _ (fr z1) ((c2.trans e11) _ _ upd_same) (st_set vx hi) dr⟩
    · exact ⟨l3, _, _, .ref t2, rfl, rfl, sq_of upd_same, atI_nat (j := 1) rfl, fin t2 _ _ (fr (fresh_back e1 z2)) ((c3.trans e11) _ _ upd_same) (st_add vx vy) dr⟩
    · exact ⟨l3, _, _, .ref t3, rfl, rfl, sq_of upd_same, atI_nat (j := 2) rfl, fin t3 _ _ (fr (fresh_back (e1.trans e2) z3)) ((c4.trans e11) _ _ upd_same) (st_need nmd) dr⟩
    · exact ⟨l3, _, _, .ref t4, rfl, rfl, sq_of upd_same, atI_nat (j := 3) rfl, fin t4 _ _ (fr (fresh_back ((e1.trans e2).trans e3) z4)) ((c5.trans e11) _ _ upd_same) (st_export nne vx) dr⟩
    · exact ⟨l3, _, _, .ref t5, rfl, rfl, sq_of upd_same, atI_nat (j := 4) rfl, fin t5 _ _ (fr (fresh_back ((((e1.trans e2).trans e3).trans e4).trans e5) z6)) ((c7.trans e11) _ _ upd_same) (st_read vx nmd nne) dr⟩
    · exact ⟨l3, _, _, .ref t6, rfl, rfl, sq_of upd_same, atI_nat (j := 5) rfl, fin t6 _ _ (fr (fresh_back (((((e1.trans e2).trans e3).trans e4).trans e5).trans e6') z7)) ((c8.trans e11) _ _ upd_same) (st_need nmd) dr⟩
    · exact ⟨l3, _, _, .ref t7, rfl, rfl, sq_of upd_same, atI_nat (j := 6) rfl, fin t7 _ _ (fr (fresh_back ((((((e1.trans e2).trans e3).trans e4).trans e5).trans e6').trans e7) z8)) ((c9.trans e11) _ _ upd_same) (st_try nmd vx) dr⟩
    · exact ⟨l3, _, _, .ref t8, rfl, rfl, sq_of upd_same, atI_nat (j := 7) rfl, fin t8 _ _ (fr (fresh_back (((((((e1.trans e2).trans e3).trans e4).trans e5).trans e6').trans e7).trans e8) z9)) ((e10.trans e11) _ _ upd_same) st_fail dr⟩
  refine q_when (et_and (et_test (ev_op (ev_var rfl) ev_c (rv_eq rfl))) fun _ => et_test (ev_op (ev_var rfl) ev_c rv_I0)) (fun hb H6 e6 => ?_) (fun hb H6 e6 => rest H6 e6)
  have hb2 := of_decide_eq_true (Bool.and_eq_true_iff.mp hb).2
  refine ⟨.str x, rfl, .ref p, rfl, .int a, rfl, p, (a : Int), rfl, hb2, ?_, r15.pot.ex e6, fun d H7 d0 d1 r7 => ?_⟩
  · rw [Int.natAbs_natCast]
    have := (Nat.log2_lt (k := 10) (by omega)).mpr (show a < 2 ^ 10 by omega)
    omega
  · refine ⟨1, d, rfl, rfl, by show 3 ≤ sizeLine; decide, fun t zt => ?_⟩
    have d7 : Drew p H5 H7 := (Drew.of r15.pot e6).trans r7
    have e30 : (10 : Nat) ^ 30 = 1000000000000000000000000000000 := by decide
    exact fin t _ _ (fresh_drew d7 r15.pot zt) upd_same (st_skip vx (by omega) (by rw [e30]; omega)) (d7.trans (Drew.of d7.pot (Ex.new zt)))
end
end Cr
namespace Cr
open PySem PySem.Spec PyProof.Rows L2 Evl
abbrev sWhole : Stmt := topS 34
abbrev sWord : Stmt := topS 35
abbrev sFits : Stmt := topS 36
abbrev sRightStep : Stmt := topS 37
abbrev nRs : List Str := ["_law_value", "_law_forms", "_law_sorts", "_law_sort", "_law_one"]
theorem scWhole : FnScope ["_law_value"] ["_law_value"] (defScope sWhole) := ⟨rfl, rfl, rfl, by decide +kernel, rfl, by decide +kernel, by decide +kernel⟩
theorem scWord : FnScope ["_law_value", "_law_letter"] ["_law_value"] (defScope sWord) := ⟨rfl, rfl, rfl, by decide +kernel, rfl, by decide +kernel, by decide +kernel⟩
theorem scFits : FnScope ["_law_sort", "_law_value"] ["_law_sort", "_law_value"] (defScope sFits) := ⟨rfl, rfl, rfl, by decide +kernel, rfl, by decide +kernel, by decide +kernel⟩
theorem scRightStep : FnScope nRs ["_law_value"] (defScope sRightStep) := ⟨rfl, rfl, rfl, by decide +kernel, rfl, by decide +kernel, by decide +kernel⟩

/-! ### mathematics -/
theorem abc_mem (c : Nat) : decide (c ∈ abc.cps.toList) = isLow c := by
  have e : abc.cps.toList = (List.range 26).map fun i => 97 + i := by decide +kernel
  rw [e]
  unfold isLow
  by_cases h : 97 ≤ c ∧ c ≤ 122
  · rw [decide_eq_true h.1, decide_eq_true h.2]
    exact decide_eq_true (List.mem_map.mpr ⟨c - 97, List.mem_range.mpr (by omega), by omega⟩)
  · rw [decide_eq_false (show ¬ c ∈ (List.range 26).map fun i => 97 + i from fun z => by
      obtain ⟨i, hi, rfl⟩ := List.mem_map.mp z
      have := List.mem_range.mp hi
      omega)]
    by_cases h1 : 97 ≤ c
    · rw [decide_eq_false (show ¬ c ≤ 122 by omega), Bool.and_false]
    · rw [decide_eq_false h1, Bool.false_and]
theorem filter_range (l : List Nat) (p : Nat → Bool) : ((List.range l.length).filter fun i => p (l.getD i 0)).map (fun i => l.getD i 0) = l.filter p := by
  have e : ∀ n, n ≤ l.length → ((List.range n).filter fun i => p (l.getD i 0)).map (fun i => l.getD i 0) = (l.take n).filter p := by
    intro n
    induction n with
    | zero => intro _; simp
    | succ n ih =>
      intro h
      have g : l.getD n 0 = l[n]'(by omega) := by simp [List.getD, List.getElem?_eq_getElem (show n < l.length by omega)]
      rw [List.range_succ, List.filter_append, List.map_append, ih (by omega), List.take_add_one, List.filter_append, List.getElem?_eq_getElem (show n < l.length by omega)]
      congr 1
      rw [List.filter_cons, g]
      simp only [Option.toList_some, List.filter_cons, List.filter_nil]
      split
      · rw [List.map_cons, g]; rfl
      · rfl
  have h := e l.length (Nat.le_refl _)
  rw [List.take_length] at h
  exact h
theorem filter_self {l : List Nat} {p : Nat → Bool} : decide (l.filter p = l) = l.all p := by
  by_cases h : l.all p = true
  · rw [h]
    exact decide_eq_true (List.filter_eq_self.mpr fun a ha => List.all_eq_true.mp h a ha)
  · rw [Bool.eq_false_iff.mpr h]
    refine decide_eq_false fun z => h (List.all_eq_true.mpr fun a ha => ?_)
    exact List.filter_eq_self.mp z a ha
theorem flat_ones : ∀ (l : List Nat), ((l.map fun c => (⟨#[c]⟩ : Str)).flatMap fun w => w.cps.toList) = l
  | [] => rfl
  | c :: r => by rw [List.map_cons, List.flatMap_cons, flat_ones r]; rfl

def fitsC (c : Nat) (d : PyData) : Bool :=
  if c = 118 then isVar d else if c = 105 then isInteger d else if c = 107 then isInteger d && atLeast 1 d else isName d
def spFits : Sp := fun vs H Q _ => ∃ c v d, vs = [.str ⟨#[c]⟩, v] ∧ Dt H v d ∧ sm d = true ∧ ∀ H', Ex H H' → Q (.bl (fitsC c d)) H'
/-- the law's table -/
def forms8 : List (Key × V) := [(.inr "set", .str "vi"), (.inr "add", .str "vv"), (.inr "skip", .str "vk"), (.inr "export", .str "nv"), (.inr "read", .str "vnn"), (.inr "need", .str "n"), (.inr "try", .str "nv"), (.inr "fail", .str "")]
def formOf (z : Str) : Option Str :=
  if z = "set" then some "vi" else if z = "add" then some "vv" else if z = "skip" then some "vk"
  else if z = "export" then some "nv" else if z = "read" then some "vnn" else if z = "need" then some "n"
  else if z = "try" then some "nv" else if z = "fail" then some "" else none
theorem form_val (z : Str) : valV forms8 (.inr z) = (formOf z).map V.str := by
  have step : ∀ (k : Str) (v : V) (r : List (Key × V)), valV ((.inr k, v) :: r) (.inr z) = if z = k then some v else valV r (.inr z) := fun k v r => by
    unfold valV
    rw [List.find?_cons]
    by_cases h : z = k
    · subst h
      simp
    · rw [if_neg h]
      have : decide ((Sum.inr k : Key) = Sum.inr z) = false := decide_eq_false fun q => h (Sum.inr.inj q).symm
      rw [this]
  unfold forms8 formOf
  rw [step, step, step, step, step, step, step, step]
  repeat' split
  all_goals rfl
/-- one form, one shape -/
theorem form_shape (z : Str) : (formOf z = none ∧ shapeOf z = none) ∨ ∃ f ks, formOf z = some f ∧ shapeOf z = some ks ∧ f.length = ks.length ∧ f.length ≤ 3 ∧ ∀ i, i < ks.length → ∀ d, fitsC (f.cps.toList.getD i 0) d = isItem d (ks.getD i "") := by
  have cv : ∀ d, fitsC 118 d = isItem d "variable" := fun d => by rw [it_var]; exact if_pos rfl
  have ci : ∀ d, fitsC 105 d = isItem d "integer" := fun d => by rw [it_int]; unfold fitsC; rw [if_neg (by decide), if_pos rfl]
  have ck : ∀ d, fitsC 107 d = isItem d "length" := fun d => by rw [it_len]; unfold fitsC; rw [if_neg (by decide), if_neg (by decide), if_pos rfl]
  have cn : ∀ d, fitsC 110 d = isItem d "name" := fun d => by rw [it_name]; unfold fitsC; rw [if_neg (by decide), if_neg (by decide), if_neg (by decide)]
  have cm : ∀ d, fitsC 110 d = isItem d "module" := fun d => by rw [it_mod]; unfold fitsC; rw [if_neg (by decide), if_neg (by decide), if_neg (by decide)]
  have two : ∀ i, i < 2 → i = 0 ∨ i = 1 := fun i h => by omega
  by_cases h1 : z = "set"
  · subst h1
    refine .inr ⟨"vi", _, by decide +kernel, sh_set, by decide +kernel, by decide +kernel, fun i hi d => ?_⟩
    rcases two i hi with rfl | rfl
    · exact cv d
    · exact ci d
  by_cases h2 : z = "add"
  · subst h2
    refine .inr ⟨"vv", _, by decide +kernel, sh_add, by decide +kernel, by decide +kernel, fun i hi d => ?_⟩
    rcases two i hi with rfl | rfl
    · exact cv d
    · exact cv d
  by_cases h3 : z = "skip"
  · subst h3
    refine .inr ⟨"vk", _, by decide +kernel, sh_skip, by decide +kernel, by decide +kernel, fun i hi d => ?_⟩
    rcases two i hi with rfl | rfl
    · exact cv d
    · exact ck d
  by_cases h4 : z = "export"
  · subst h4
    refine .inr ⟨"nv", _, by decide +kernel, sh_export, by decide +kernel, by decide +kernel, fun i hi d => ?_⟩
    rcases two i hi with rfl | rfl
    · exact cn d
    · exact cv d
  by_cases h5 : z = "read"
  · subst h5
    refine .inr ⟨"vnn", _, by decide +kernel, sh_read, by decide +kernel, by decide +kernel, fun i hi d => ?_⟩
    have hi3 : i < 3 := hi
    have h012 : i = 0 ∨ i = 1 ∨ i = 2 := by omega
    rcases h012 with rfl | rfl | rfl
    · exact cv d
    · exact cm d
    · exact cn d
  by_cases h6 : z = "need"
  · subst h6
    refine .inr ⟨"n", _, by decide +kernel, sh_need, by decide +kernel, by decide +kernel, fun i hi d => ?_⟩
    have hi3 : i < 1 := hi
    obtain rfl : i = 0 := by omega
    exact cm d
  by_cases h7 : z = "try"
  · subst h7
    refine .inr ⟨"nv", _, by decide +kernel, sh_try, by decide +kernel, by decide +kernel, fun i hi d => ?_⟩
    rcases two i hi with rfl | rfl
    · exact cm d
    · exact cv d
  by_cases h8 : z = "fail"
  · subst h8
    refine .inr ⟨"", _, by decide +kernel, sh_fail, by decide +kernel, by decide +kernel, fun i hi d => ?_⟩
    exact absurd hi (Nat.not_lt_zero _)
  left
  unfold formOf shapeOf
  rw [if_neg h1, if_neg h2, if_neg h3, if_neg h4, if_neg h5, if_neg h6, if_neg h7, if_neg h8, if_neg h1, if_neg h2, if_neg h3, if_neg h4, if_neg h5, if_neg h6, if_neg h7, if_neg h8]
  exact ⟨rfl, rfl⟩

/-! ### rules -/
/-- t == () -/
def rEqT0 (K : PySem.W.Frag) : R2 := fun x y H Q => ∃ a b xs, x = .ref a ∧ y = .ref b ∧ SqT K H a xs ∧ SqT K H b [] ∧ Q (.bl xs.isEmpty) H
theorem op_eqT0 {X : Cx} (hu : X.A.units < cLine) : OpR X (compareOp .Eq) (rEqT0 X.K) := by
  intro pins s σ H x y v u Q I rx ry h
  obtain ⟨a, b, xs, rfl, rfl, ha, hb, q⟩ := h
  cases rx
  cases ry
  obtain ⟨its, rv, p1, _⟩ := I.tuple ha
  obtain ⟨its2, rv2, p2, _⟩ := I.tuple hb
  cases rv2
  refine SeqAt.eq_tupleAt (e := fun _ => true) (show s.heap.IsTuple a its.toArray from p1) (show s.heap.IsTuple b #[] from p2) hu (fun j _ h2 => absurd h2 (Nat.not_lt_zero j)) ?_
  refine ⟨.bl xs.isEmpty, H, I, ?_, q⟩
  have l := rv.length
  cases xs with
  | nil =>
    cases rv
    rfl
  | cons y r =>
    cases rv
    rfl
theorem ev_join {te : TE} {σ : L2.St} {H : Hp} {K : PySem.W.Frag} {ws : List Str} {a : Str} (h : EvL te σ H (ws.map V.str)) (hz : (ws.map (·.length)).sum + ws.length * a.length ≤ 16777216) :
    Ev (tM1 (fun x xs H Q => ∃ a p, ∃ ys : List Str, x = .str a ∧ xs = [.ref p] ∧ (SqL K H p (ys.map V.str) ∨ SqT K H p (ys.map V.str)) ∧ (ys.map (·.length)).sum + ys.length * a.length ≤ 16777216 ∧ Q (.str (Txt.join a ys)) H) (tC (.str a)) te) σ H (.str (Txt.join a ws)) := fun H1 e Q q =>
  ⟨⟨a, rfl⟩, h H1 e _ fun p H2 _ e2 hp => ⟨a, p, ws, rfl, rfl, .inl (sq_of hp), hz, q H2 e2⟩⟩
section
variable {P : Program} {w : World} {K : PySem.W.Frag} {mg : Str → Option Value} {base : Heap}
theorem ok_whole {f : Addr} {fd : FuncData} {k : Nat} (F : Fun K "_law_is_whole" "_law_is_whole" sWhole f fd) (B : Blt mg) : FnG P w K mg base CX0 (k + 1) f fd ["_law_value"] (spD isInteger) := by
  refine okG F scWhole spD_len (fun cdv A outer s H vs Q E hq hr h => ?_)
  obtain ⟨v, d, rfl, hd, _, q⟩ := h
  refine ⟨_, pss_one (ps_ret (pe_and (pe_callB call_isi (by rfl) B.isi bIsi (pa_cons (pv 0) (pa_cons (pe_bltn (v := .ty "int") (by rfl) B.int bInt rfl) pa_nil)))
    (pe_one (pe_not (pe_callB call_isi (by rfl) B.isi bIsi (pa_cons (pv 0) (pa_cons (pe_bltn (v := .ty "bool") (by rfl) B.bool bBool rfl) pa_nil))))))), ?_⟩
  exact s_ret (ev_andV (ev_cb (ea_cons (ev_var rfl) (ea_cons ev_c ea_nil)) (rc_isi hd memI)) fun _ => ev_notV (ev_cb (ea_cons (ev_var rfl) (ea_cons ev_c ea_nil)) (rc_isi hd memB))) q

theorem ok_word {f : Addr} {fd : FuncData} {k : Nat} (F : Fun K "_law_is_word" "_law_is_word" sWord f fd) (B : Blt mg) : FnG P w K mg base CX0 (k + 1) f fd ["_law_value"] (spD isName) := by
  refine okG F scWord spD_len (fun cdv A outer s H vs Q E hq hr h => ?_)
  obtain ⟨v, d, rfl, hd, hs, q⟩ := h
  refine ⟨_, pss_cons (ps_if (PW.pt (pw_or (pt_not (pt_val (pe_callB call_isi (by rfl) B.isi bIsi (pa_cons (pv 0) (pa_cons (pe_bltn (v := .ty "str") (by rfl) B.str bStr rfl) pa_nil)))))
      (pw_or (pt_cmpR op_gt (pe_callB call_len_str (by rfl) B.len bLen (pa_cons (pv 0) pa_nil)) pe_int (nomark _)) (pw_or1 (pt_cmpR op_eq (pv 0) pe_str (nomark _)))))) (pss_one (ps_ret pe_bl)) pss_nil)
    (pss_one (ps_ret (pe_cmpR op_eq (pe_join pe_str (pe_lc (own := [("_law_letter", 1)]) (g := gName 1) (tt := tTest (tOp rInS (tVar 1) (tC (.str abc)))) rfl scWord.nd (pi_str (pv 0)) (blkOk_by (own := [("_law_letter", 1)]) (N := ["_law_value", "_law_letter"]) (sc := defScope sWord) (by decide +kernel))
        (fun _ _ _ _ _ => pg_name (i := 1) scWord.nd rfl (Or.inl rfl)) (fun _ _ _ _ _ => by exact pts_one (pt_cmpR op_inS (pv 1) pe_str (by rfl))) (fun _ _ _ _ _ => pv 1))) (pv 0) (nomark _)))), ?_⟩
  have isS := rc_isi (K := K) hd memS
  cases hd with
  | str x =>
    have hx : x.length ≤ 1000 := by
      rw [sm] at hs
      exact of_decide_eq_true hs
    refine q_when (et_or (et_not (et_B (ev_cb (ea_cons (ev_var rfl) (ea_cons ev_c ea_nil)) isS))) fun _ => et_or (et_test (ev_op (ev_cb (ea_cons (ev_var rfl) ea_nil) (rc_lenS hx)) ev_c rv_I0)) fun _ => et_test (ev_op (ev_var rfl) ev_c (rv_eq rfl))) (fun hb H1 e1 => ?_) (fun hb H1 e1 => ?_)
    all_goals have e0 : isT "str" (.str x) = true := rfl
    all_goals have hl : (x = ("" : Str)) ↔ x.length = 0 := ⟨fun z => by subst z; decide +kernel, fun z => Str.ext' (by have : x.cps.size = 0 := z; rw [Array.size_eq_zero_iff.mp this]; decide +kernel)⟩
    · refine s_ret ev_c fun H2 e2 => ?_
      have hb' : (!(isT "str" (.str x)) || (decide ((8 : Int) < (x.length : Int)) || decide (V.str x = V.str ""))) = true := hb
      rw [e0, Bool.not_true, Bool.false_or, Bool.or_eq_true] at hb'
      have z : isName (.str x) = false := by
        show ((decide ((1 : Int) ≤ x.length) && decide ((x.length : Int) ≤ 8)) && x.cps.toList.all isLow) = false
        rcases hb' with z | z
        · have := of_decide_eq_true z
          rw [decide_eq_false (show ¬ (x.length : Int) ≤ 8 by omega), Bool.and_false, Bool.false_and]
        · have := hl.mp (V.str.inj (of_decide_eq_true z))
          rw [decide_eq_false (show ¬ (1 : Int) ≤ x.length by omega), Bool.false_and, Bool.false_and]
      have g := q H2 (e1.trans e2)
      rw [z] at g
      exact g
    · have hb' : (!(isT "str" (.str x)) || (decide ((8 : Int) < (x.length : Int)) || decide (V.str x = V.str ""))) = false := hb
      rw [e0, Bool.not_true, Bool.false_or, Bool.or_eq_false_iff] at hb'
      have h8 := of_decide_eq_false hb'.1
      have h0 : x.length ≠ 0 := fun z => of_decide_eq_false hb'.2 (by rw [hl.mpr z])
      have lc := el_lcW (wi := iStr (tVar 0)) (g := gName 1) (tt := tTest (tOp rInS (tVar 1) (tC (.str abc)))) (te := tVar 1) (vs := [1]) (σ := start ["_law_value", "_law_letter"] [V.str x]) (H := H1) (fun i => isLow (x.cps.toList.getD i 0)) (fun i => .str ⟨#[x.cps.toList.getD i 0]⟩)
        (Y := fun i H v H' => H' = H ∧ ∃ c, x.cps[i]? = some c ∧ v = .str ⟨#[c]⟩) (n := x.cps.size) (by have : x.cps.size = x.length := rfl; omega)
        (fun H2 e R r => ⟨.str x, rfl, x, rfl, r H2 _ _ walk_str (fun _ _ _ z => z) (Ex.refl H2) trivial⟩) (fun i y H2 H3 e hi hy => by
          obtain ⟨rfl, c, hc, rfl⟩ := hy
          have ec : x.cps.toList.getD i 0 = c := by
            rw [List.getD, Array.getElem?_toList, hc]; rfl
          rw [ec]
          refine ⟨Ex.refl _, [some (.str x), some (.str ⟨#[c]⟩)], rfl, fun R r => r, et_test (ev_op (ev_var rfl) ev_c (rv_val fun H4 _ Q q => ⟨c, abc, rfl, rfl, ?_⟩)), fun _ => ev_var rfl⟩
          rw [abc_mem]
          exact q)
      have eg : given x.cps.size (fun i => isLow (x.cps.toList.getD i 0)) (fun i => V.str ⟨#[x.cps.toList.getD i 0]⟩) = ((x.cps.toList.filter isLow).map fun c => (⟨#[c]⟩ : Str)).map V.str := by
        unfold given
        rw [← filter_range x.cps.toList isLow, List.map_map, List.map_map]
        rfl
      rw [eg] at lc
      have lw : ∀ l : List Nat, ((l.map fun c => (⟨#[c]⟩ : Str)).map (·.length)).sum = l.length := fun l => by
        induction l with
        | nil => rfl
        | cons c r ih => rw [List.map_cons, List.map_cons, List.sum_cons, ih, List.length_cons]; show 1 + r.length = _; omega
      have fl := List.length_filter_le isLow x.cps.toList
      rw [len_toList] at fl
      have e00 : (("" : Str)).length = 0 := by decide +kernel
      refine s_ret (ev_op (ev_join (K := K) lc (by rw [lw, e00]; omega)) (ev_var rfl) (rv_eq rfl)) fun H2 e2 => ?_
      have z : decide (V.str (Txt.join "" ((x.cps.toList.filter isLow).map fun c => (⟨#[c]⟩ : Str))) = V.str x) = isName (.str x) := by
        show _ = ((decide ((1 : Int) ≤ x.length) && decide ((x.length : Int) ≤ 8)) && x.cps.toList.all isLow)
        rw [decide_eq_true (show (1 : Int) ≤ x.length by omega), decide_eq_true (show (x.length : Int) ≤ 8 by omega), Bool.true_and, Bool.true_and, ← filter_self]
        have jc := join_cps ((x.cps.toList.filter isLow).map fun c => (⟨#[c]⟩ : Str))
        rw [flat_ones] at jc
        by_cases hh : x.cps.toList.filter isLow = x.cps.toList
        · rw [decide_eq_true hh]
          refine decide_eq_true (congrArg V.str (PyProof.Rows.ext_toList ?_))
          rw [jc, hh]
        · rw [decide_eq_false hh]
          refine decide_eq_false fun zz => hh ?_
          rw [← jc, V.str.inj zz]
      rw [z]
      exact q H2 (e1.trans e2)
  | _ =>
    refine q_when (b := true) (et_is (et_or (et_not (et_B (ev_cb (ea_cons (ev_var rfl) (ea_cons ev_c ea_nil)) isS))) (b := false) fun z => absurd z (by first | decide | simp [isT, isTs, tyT])) (by first | decide | simp [isT, isTs, tyT])) (fun _ H1 e1 => s_ret ev_c fun H2 e2 => q H2 (e1.trans e2)) (fun z => absurd z (by decide))

theorem ok_fits {f fW fN : Addr} {fd fdW fdN : FuncData} {k : Nat} (F : Fun K "_law_fits" "_law_fits" sFits f fd) (B : Blt mg)
    (W : Has P w K mg base k "_law_is_whole" ["_law_value"] (spD isInteger)) (N : Has P w K mg base k "_law_is_word" ["_law_value"] (spD isName)) :
    FnG P w K mg base CX0 (k + 1) f fd ["_law_sort", "_law_value"] spFits := by
  obtain ⟨fI, fdI, GI, bI, kI, gI⟩ := W.ex
  obtain ⟨fN, fdN, GN, bN, kN, gN⟩ := N.ex
  refine okG F scFits (fun vs H Q E h => by obtain ⟨_, _, _, rfl, _⟩ := h; rfl) (fun cdv A outer s H vs Q E hq hr h => ?_)
  obtain ⟨c, v, d, rfl, hd, hs, q⟩ := h
  refine ⟨_, pss_cons (ps_if (pt_cmpR op_eq (pv 0) pe_str (nomark _)) (pss_one (ps_ret (pe_and (pe_callB call_isi (by rfl) B.isi bIsi (pa_cons (pv 1) (pa_cons (pe_bltn (v := .ty "str") (by rfl) B.str bStr rfl) pa_nil)))
        (pe_one (pe_cmpR op_in_seq (pv 1) (pe_tup (pa_cons pe_str (pa_cons pe_str (pa_cons pe_str (pa_cons pe_str pa_nil))))) (by rfl)))))) pss_nil)
    (pss_cons (ps_if (pt_cmpR op_eq (pv 0) pe_str (nomark _)) (pss_one (ps_ret (callG GI hq hr (by rfl) gI kI bI .nil pass0 (pa_cons (pv 1) pa_nil)))) pss_nil)
    (pss_cons (ps_if (pt_cmpR op_eq (pv 0) pe_str (nomark _)) (pss_one (ps_ret (pe_and (callG GI hq hr (by rfl) gI kI bI .nil pass0 (pa_cons (pv 1) pa_nil)) (pe_one (pe_cmpR op_gt (pv 1) pe_int (nomark _)))))) pss_nil)
    (pss_one (ps_ret (callG GN hq hr (by rfl) gN kN bN .nil pass0 (pa_cons (pv 1) pa_nil)))))), ?_⟩
  have ov : (("v" : Str)) = ⟨#[118]⟩ := by decide +kernel
  have oi : (("i" : Str)) = ⟨#[105]⟩ := by decide +kernel
  have ok : (("k" : Str)) = ⟨#[107]⟩ := by decide +kernel
  have ne : ∀ {z : Str} {n : Nat}, z = ⟨#[n]⟩ → decide (V.str ⟨#[c]⟩ = V.str z) = false → ¬ c = n := fun ez h e => of_decide_eq_false h (by rw [ez, e])
  have ye : ∀ {z : Str} {n : Nat}, z = ⟨#[n]⟩ → decide (V.str ⟨#[c]⟩ = V.str z) = true → c = n := fun {z n} ez h => by
    have q := V.str.inj (of_decide_eq_true h)
    rw [ez] at q
    have q2 : (#[c] : Array Nat) = #[n] := congrArg Str.cps q
    simpa using q2
  refine q_when (et_test (ev_op (ev_var rfl) ev_c (rv_eq rfl))) (fun hb H1 e1 => ?_) (fun hb H1 e1 => ?_)
  · have hd1 := Dt.ex e1 hd
    have isS := rc_isi (K := K) hd1 memS
    refine s_ret (v := .bl (isVar d)) ?_ fun H2 e2 => ?_
    · cases hd1 with
      | str x =>
        refine ev_is (ev_andV (b := inV (.str x) (vars4.map V.str)) (ev_cb (ea_cons (ev_var rfl) (ea_cons ev_c ea_nil)) isS) fun _ => ev_inU (ev_var rfl) (eu_tup (ea_cons ev_c (ea_cons ev_c (ea_cons ev_c (ea_cons ev_c ea_nil)))) (by show 4 ≤ 100000; decide)) rfl (flat_strs _)) ?_
        rw [inV_strs]
        rfl
      | _ => exact ev_is (ev_andV (b := false) (ev_cb (ea_cons (ev_var rfl) (ea_cons ev_c ea_nil)) isS) fun z => absurd z (by first | decide | simp [isT, isTs, tyT])) (by first | rfl | simp [isT, isTs, tyT, isVar])
    · have g := q H2 (e1.trans e2)
      unfold fitsC at g
      rw [if_pos (ye ov hb)] at g
      exact g
  refine q_when (et_test (ev_op (ev_var rfl) ev_c (rv_eq rfl))) (fun hb2 H2 e2 => ?_) (fun hb2 H2 e2 => ?_)
  · refine s_ret (ev_call (ea_cons (ev_var rfl) ea_nil) (spv_D (Dt.ex (e1.trans e2) hd) hs)) fun H3 e3 => ?_
    have g := q H3 ((e1.trans e2).trans e3)
    unfold fitsC at g
    rw [if_neg (ne ov hb), if_pos (ye oi hb2)] at g
    exact g
  refine q_when (et_test (ev_op (ev_var rfl) ev_c (rv_eq rfl))) (fun hb3 H3 e3 => ?_) (fun hb3 H3 e3 => ?_)
  · have hd3 := Dt.ex ((e1.trans e2).trans e3) hd
    refine s_ret (v := .bl (isInteger d && atLeast 1 d)) (ev_andV (ev_call (ea_cons (ev_var rfl) ea_nil) (spv_D hd3 hs)) fun hi => ?_) fun H4 e4 => ?_
    · cases hd3 with
      | int i =>
        refine ev_is (ev_op (ev_var rfl) ev_c rv_I0) ?_
        show V.bl (decide (0 < i)) = V.bl (decide (1 ≤ i))
        congr 1
      | _ => exact absurd hi (by first | decide | (revert hi; simp [isInteger, isT, isTs, tyT]))
    · have g := q H4 (((e1.trans e2).trans e3).trans e4)
      unfold fitsC at g
      rw [if_neg (ne ov hb), if_neg (ne oi hb2), if_pos (ye ok hb3)] at g
      exact g
  · refine s_ret (ev_call (ea_cons (ev_var rfl) ea_nil) (spv_D (Dt.ex ((e1.trans e2).trans e3) hd) hs)) fun H4 e4 => ?_
    have g := q H4 (((e1.trans e2).trans e3).trans e4)
    unfold fitsC at g
    rw [if_neg (ne ov hb), if_neg (ne oi hb2), if_neg (ne ok hb3)] at g
    exact g
end
end Cr
namespace Cr
open PySem PySem.Spec PyProof.Rows L2 Evl
theorem ev_dnotin {ty td : TE} {σ : L2.St} {H : Hp} {a : Addr} {z : Str} {kvs : List (Key × V)} (hy : Ev ty σ H (.str z)) (hd : Ev td σ H (.ref a)) (h : H a = some (.dK kvs)) : Ev (tDNotIn ty td) σ H (.bl (!(valV kvs (.inr z)).isSome)) := fun H1 e Q q =>
  hy H1 e _ fun H2 e2 => hd H2 (e.trans e2) _ fun H3 e3 => ⟨a, _, rfl, DGet.k (k := .inr z) (((e.trans e2).trans e3) _ _ h), q H3 (e2.trans e3)⟩
theorem ev_dget {ty td : TE} {σ : L2.St} {H : Hp} {a : Addr} {z : Str} {kvs : List (Key × V)} {v : V} (hd : Ev td σ H (.ref a)) (hy : Ev ty σ H (.str z)) (h : H a = some (.dK kvs)) (hv : valV kvs (.inr z) = some v) : Ev (tDGet td ty) σ H v := fun H1 e Q q =>
  hd H1 e _ fun H2 e2 => hy H2 (e.trans e2) _ fun H3 e3 => ⟨a, v, rfl, by rw [← hv]; exact DGet.k (k := .inr z) (((e.trans e2).trans e3) _ _ h), q H3 (e2.trans e3)⟩
def forms7 : List (Key × V) := [(.inr "set", .str "vi"), (.inr "add", .str "vv"), (.inr "skip", .str "vk"), (.inr "export", .str "nv"), (.inr "read", .str "vnn"), (.inr "need", .str "n"), (.inr "try", .str "nv")]
theorem forms_put : putK (mergeK [] forms7) (.inr "fail") (.str "") = forms8 := by decide +kernel
section
variable {P : Program} {w : World} {K : PySem.W.Frag} {mg : Str → Option Value} {base : Heap}
theorem ok_rightStep {f : Addr} {fd : FuncData} {k : Nat} (F : Fun K "_law_is_right_step" "_law_is_right_step" sRightStep f fd) (B : Blt mg)
    (FT : Has P w K mg base k "_law_fits" ["_law_sort", "_law_value"] spFits) : FnG P w K mg base CX0 (k + 1) f fd ["_law_value"] (spD isStep) := by
  obtain ⟨fT, fdT, GT, bT, kT, gT⟩ := FT.ex
  refine okG F scRightStep spD_len (fun cdv A outer s H vs Q E hq hr h => ?_)
  obtain ⟨v, d, rfl, hd, hs, q⟩ := h
  have hu := hu_of hr
  refine ⟨_, pss_cons (ps_set (i := 1) scRightStep.nd rfl (.inl rfl) (pe_disp (pps_cons pe_str pe_str (pps_cons pe_str pe_str (pps_cons pe_str pe_str (pps_cons pe_str pe_str (pps_cons pe_str pe_str (pps_cons pe_str pe_str (pps_cons pe_str pe_str pps_nil))))))) (by rfl) (by rfl) (fun z => by cases z) (by decide)))
    (pss_cons (ps_dput hu (pv 1) pe_str pe_str rfl)
    (pss_cons (ps_if (PW.pt (pw_or (pt_not (pt_val (pe_callB call_isi (by rfl) B.isi bIsi (pa_cons (pv 0) (pa_cons (pe_bltn (v := .ty "tuple") (by rfl) B.tuple bTuple rfl) pa_nil)))))
      (pw_or (pt_cmpR (op_eqT0 hr.units0) (pv 0) (pe_tup pa_nil) (nomark _))
      (pw_or (pt_not (pt_val (pe_callB call_isi (by rfl) B.isi bIsi (pa_cons (pe_ix ix_tup (pv 0) pe_int (fun _ _ => rfl)) (pa_cons (pe_bltn (v := .ty "str") (by rfl) B.str bStr rfl) pa_nil)))))
      (pw_or1 (pt_cmp (pc_dnotin hu (pe_ix ix_tup (pv 0) pe_int (fun _ _ => rfl)) (pv 1)))))))) (pss_one (ps_ret pe_bl)) pss_nil)
    (pss_cons (ps_set (i := 2) scRightStep.nd rfl (.inl rfl) (pe_dget hu (pv 1) (pe_ix ix_tup (pv 0) pe_int (fun _ _ => rfl)) (fun _ _ => rfl)))
    (pss_cons (ps_if (pt_cmpR op_ne (pe_callB call_len_str (by rfl) B.len bLen (pa_cons (pv 2) pa_nil)) (pe_op op_sub (pe_callB call_len_seq (by rfl) B.len bLen (pa_cons (pv 0) pa_nil)) pe_int) (nomark _)) (pss_one (ps_ret pe_bl)) pss_nil)
    (pss_one (ps_ret (pe_callB (cr_all rfl) (by rfl) B.all bAll (pa_cons
      (pe_lc (own := [("_law_sort", 3), ("_law_one", 4)]) (g := gTup K 2 (gCons (gName 3) (gCons (gName 4) gNil))) (tt := tYes) rfl scRightStep.nd (pi_zipS (by rfl) B.zip (pa_cons (pv 2) (pa_cons (pe_slice sl_tup (pv 0) (po_some pe_int) po_none) pa_nil))) (blkOk_by (own := [("_law_sort", 3), ("_law_one", 4)]) (N := nRs) (sc := defScope sRightStep) (by decide +kernel))
        (fun _ _ _ _ _ => by exact pg_tup rfl (pgs_cons (pg_name (i := 3) scRightStep.nd rfl (Or.inl rfl)) (pgs_cons (pg_name (i := 4) scRightStep.nd rfl (Or.inl rfl)) pgs_nil))) (fun _ _ _ _ _ => pts_nil)
        (fun _ _ _ _ _ => callG GT hq hr (by rfl) gT kT bT .nil pass0 (pa_cons (pv 3) (pa_cons (pv 4) pa_nil)))) pa_nil)))))))), ?_⟩
  refine fun fp nfp => ⟨upd_same, forms7, rfl, by decide, ?_⟩
  refine ⟨.ref fp, rfl, fp, _, rfl, DPut.k (k := .inr "fail") upd_same (sz_lt (by decide +kernel)), ?_⟩
  have eu : upd (upd (upd H fp (.dK [])) fp (.dK (mergeK [] forms7))) fp (.dK (putK (mergeK [] forms7) (.inr "fail") (.str ""))) = upd H fp (.dK forms8) := by
    rw [upd_upd, upd_upd, forms_put]
  rw [eu]
  have e0 : Ex H (upd H fp (.dK forms8)) := Ex.new nfp
  have hf0 : (upd H fp (.dK forms8)) fp = some (.dK forms8) := upd_same
  generalize upd H fp (.dK forms8) = H0 at e0 hf0
  have hd0 := Dt.ex e0 hd
  have isS := rc_isi (K := K) hd0 memT
  by_cases ht : ∃ ds, d = .tuple ds
  · obtain ⟨ds, rfl⟩ := ht
    have ha : ∃ a, v = .ref a := by cases hd; exact ⟨_, rfl⟩
    obtain ⟨a, rfl⟩ := ha
    obtain ⟨xs, hx, hds⟩ := dt_tup hd0
    have isY : isT "tuple" (.tuple ds) = true := rfl
    have evE : ∀ {H' : Hp}, Ex H0 H' → EvT (tTest (tOp (rEqT0 K) (tVar 0) (tTup tNil))) [some (.ref a), some (.ref fp), none, none, none] H' xs.isEmpty := fun e' => et_test (ev_opU (ev_var rfl) (eu_tup ea_nil (Nat.zero_le _)) fun p2 H2 hp2 e2 => rv_val fun H3 e3 Q q => ⟨a, p2, xs, rfl, rfl, st_of (((e'.trans e2).trans e3) _ _ hx), st_of (e3 _ _ hp2), q⟩)
    cases hds with
    | nil =>
      refine q_when (b := true) (et_is (et_or (et_not (et_B (ev_cb (ea_cons (ev_var rfl) (ea_cons ev_c ea_nil)) isS))) (b := true) fun _ => et_is (et_or (evE (Ex.refl H0)) (b := true) fun z => absurd z (by decide)) (Bool.or_true _)) (Bool.or_true _)) (fun _ H1 e1 => s_ret ev_c fun H2 e2 => q H2 ((e0.trans e1).trans e2)) (fun z => absurd z (by decide))
    | @cons v0 xs' d0 ds' h0 hr' =>
    have ix0 : ∀ {H' : Hp}, Ex H0 H' → ∀ {σ : L2.St}, σ[0]? = some (some (.ref a)) → Ev (tOp (rIxT K) (tVar 0) (tC (.int 0))) σ H' v0 := fun e0 σ hσ => ev_op (ev_var hσ) ev_c (rv_ixT (st_of (e0 _ _ hx)) (atI_nat (j := 0) rfl))
    have isS0 := rc_isi (K := K) h0 memS
    by_cases hstr : ∃ z, d0 = .str z
    · obtain ⟨z, rfl⟩ := hstr
      cases h0
      have test : ∀ b : Bool, (!(valV forms8 (.inr z)).isSome) = b → EvT (tOr (tNot (tB (tCB (rIsi K) (tCons (tVar 0) (tCons (tC (.ty "tuple")) tNil))))) (tOr (tTest (tOp (rEqT0 K) (tVar 0) (tTup tNil))) (tOr (tNot (tB (tCB (rIsi K) (tCons (tOp (rIxT K) (tVar 0) (tC (.int 0))) (tCons (tC (.ty "str")) tNil))))) (tB (tDNotIn (tOp (rIxT K) (tVar 0) (tC (.int 0))) (tVar 1)))))) [some (.ref a), some (.ref fp), none, none, none] H0 b := fun b hb => by
        refine et_is (et_or (b := b) (et_not (et_B (ev_cb (ea_cons (ev_var rfl) (ea_cons ev_c ea_nil)) isS))) fun _ => ?_) rfl
        refine et_is (et_or (b := b) (evE (Ex.refl H0)) fun _ => ?_) rfl
        refine et_is (et_or (b := b) (et_not (et_B (ev_cb (ea_cons (ix0 (Ex.refl H0) rfl) (ea_cons ev_c ea_nil)) isS0))) fun _ => ?_) rfl
        exact et_is (et_B (ev_dnotin (ix0 (Ex.refl H0) rfl) (ev_var rfl) hf0)) hb
      rcases form_shape z with ⟨hf, hsh⟩ | ⟨fm, ks, hf, hsh, hlen, h3, hfit⟩
      · refine q_when (test true (by rw [form_val, hf]; rfl)) (fun _ H1 e1 => s_ret ev_c fun H2 e2 => ?_) (fun z => absurd z (by decide))
        have g := q H2 ((e0.trans e1).trans e2)
        have zz : isStep (.tuple (.str z :: ds')) = false := by
          show (match shapeOf z with | some ks => _ | none => false) = false
          rw [hsh]
        rw [zz] at g
        exact g
      · refine q_when (test false (by rw [form_val, hf]; rfl)) (fun z => absurd z (by decide)) (fun _ H1 e1 => ?_)
        refine q_asg (v := .str fm) (ev_dget (ev_var rfl) (ix0 e1 rfl) (e1 _ _ hf0) (by rw [form_val, hf]; rfl)) fun H2 e2 => ?_
        have e12 := e1.trans e2
        have zz := isStep_eq (ds := ds') hsh
        have lx := hr'.length
        refine q_when (b := !decide (ds'.length = ks.length)) (et_is (et_test (ev_op (ev_cb (ea_cons (ev_var rfl) ea_nil) (rc_lenS (by omega))) (ev_op (ev_cb (ea_cons (ev_var rfl) ea_nil) (rc_lenT (st_of (e12 _ _ hx)))) ev_c rv_I0) (rv_ne rfl))) ?_) (fun hb2 H4 e4 => s_ret ev_c fun H5 e5 => ?_) (fun hb2 H4 e4 => ?_)
        · show (!decide (V.int (fm.length : Int) = V.int (((V.str z :: xs').length : Nat) - 1 : Int))) = _
          congr 1
          rw [List.length_cons]
          by_cases hh : ds'.length = ks.length
          · rw [decide_eq_true hh, decide_eq_true]
            congr 1
            omega
          · rw [decide_eq_false hh, decide_eq_false]
            intro hz
            have := V.int.inj hz
            omega
        · have g := q H5 (((e0.trans e12).trans e4).trans e5)
          rw [zz] at g
          rw [Bool.not_eq_true'] at hb2
          rw [hb2, Bool.false_and] at g
          exact g
        · rw [Bool.not_eq_false'] at hb2
          have hh := of_decide_eq_true hb2
          have e14 := e12.trans e4
          have hsd : smAll ds' = true := by
            rw [sm, Bool.and_eq_true, smAll, Bool.and_eq_true] at hs
            exact hs.2.2
          have lf : fm.cps.size = ks.length := hlen
          have lc := el_lcW (wi := iZipS K (tCons (tVar 2) (tCons (tSl (rSlT K) (tVar 0) (tPart (tC (.int 1))) tNoPart) tNil))) (g := gTup K 2 (gCons (gName 3) (gCons (gName 4) gNil))) (tt := tYes) (te := tCall spFits [] E0 (tCons (tVar 3) (tCons (tVar 4) tNil))) (vs := [3, 4])
            (σ := [some (.ref a), some (.ref fp), some (.str fm), none, none]) (H := H4) (n := ks.length) (Y := YPair (fun i => (fm.cps[i]?).map fun c => .str ⟨#[c]⟩) fun i => xs'[i]?) (fun _ => true) (fun i => .bl (isItem (ds'.getD i .none) (ks.getD i ""))) (by omega)
            (fun H5 e5 R r => by
              refine ⟨.str fm, rfl, eu_tail (ev_var rfl) (st_of ((e14.trans e5) _ _ hx)) H5 (Ex.refl H5) _ fun p H6 hp e6 h6 => ?_⟩
              exact ⟨fm, p, xs', rfl, st_of h6, r H6 _ _ (walk_zipS (x := fm) (ys := xs') (by omega)) (fun H7 H8 e7 z => ex_t e7 z) e6 (st_of h6)⟩)
            (fun i y H5 H6 e5 hi hy => by
              obtain ⟨T, x1, y1, rfl, hT, rfl, hx1, hy1⟩ := hy
              obtain ⟨d1, hd1, dd1⟩ := hr'.get hy1
              have hi2 : i < fm.cps.size := by omega
              have hc1 : fm.cps[i]? = some (fm.cps.toList.getD i 0) := by
                rw [List.getD, Array.getElem?_toList, Array.getElem?_eq_getElem hi2]
                rfl
              have ex1 : x1 = V.str ⟨#[fm.cps.toList.getD i 0]⟩ := by
                have z2 : (fm.cps[i]?).map (fun c => V.str ⟨#[c]⟩) = some x1 := hx1
                rw [hc1] at z2
                exact (Option.some.inj z2).symm
              have ed : ds'.getD i .none = d1 := by rw [List.getD, hd1]; rfl
              subst ex1
              refine ⟨Ex.new hT, [some (.ref a), some (.ref fp), some (.str fm), some (.str ⟨#[fm.cps.toList.getD i 0]⟩), some y1], rfl, fun R r => pair_go upd_same r, fun H7 _ Q q => q H7 (Ex.refl H7), fun _ => ?_⟩
              rw [ed, ← hfit i hi]
              refine ev_call (ea_cons (ev_var rfl) (ea_cons (ev_var rfl) ea_nil)) fun H7 e7 Q q E => ⟨fm.cps.toList.getD i 0, y1, d1, rfl, Dt.ex (((e14.trans e5).trans (Ex.new hT)).trans e7) dd1, smAll_get hsd hd1, q⟩)
          have eg : given ks.length (fun _ => true) (fun i => V.bl (isItem (ds'.getD i .none) (ks.getD i ""))) = ((List.range ks.length).map fun i => isItem (ds'.getD i .none) (ks.getD i "")).map V.bl := by
            rw [given_all, List.map_map]; rfl
          rw [eg] at lc
          refine s_ret (ev_all lc) fun H5 e5 => ?_
          have g := q H5 ((e0.trans e14).trans e5)
          rw [zz, decide_eq_true hh, Bool.true_and] at g
          exact g
    · have ns : isT "str" d0 = false := by
        cases d0 with
        | str z => exact absurd ⟨z, rfl⟩ hstr
        | _ => rfl
      refine q_when (b := true) (et_is (et_or (et_not (et_B (ev_cb (ea_cons (ev_var rfl) (ea_cons ev_c ea_nil)) isS))) (b := true) fun _ => et_is (et_or (evE (Ex.refl H0)) (b := true) fun _ => et_is (et_or (et_not (et_B (ev_cb (ea_cons (ix0 (Ex.refl H0) rfl) (ea_cons ev_c ea_nil)) isS0))) (b := true) fun z => absurd z (by rw [ns]; decide)) (Bool.or_true _)) (Bool.or_true _)) (Bool.or_true _)) (fun _ H2 e2 => s_ret ev_c fun H3 e3 => ?_) (fun z => absurd z (by decide))
      have g := q H3 ((e0.trans e2).trans e3)
      cases d0 with
      | str z => exact absurd ⟨z, rfl⟩ hstr
      | _ => exact g
  · have nt : isT "tuple" d = false := by
      cases d with
      | tuple ds => exact absurd ⟨ds, rfl⟩ ht
      | _ => rfl
    refine q_when (b := true) (et_is (et_or (et_not (et_B (ev_cb (ea_cons (ev_var rfl) (ea_cons ev_c ea_nil)) isS))) (b := true) fun z => absurd z (by rw [nt]; decide)) (Bool.or_true _)) (fun _ H1 e1 => s_ret ev_c fun H2 e2 => ?_) (fun z => absurd z (by decide))
    have g := q H2 ((e0.trans e1).trans e2)
    cases d with
    | tuple ds => exact absurd ⟨ds, rfl⟩ ht
    | _ => exact g
end
end Cr
namespace Cr
open PySem PySem.Spec PyProof.Rows L2 Evl
/-! ### sizes -/
def gB (b m : Nat) (d : PyData) : Bool := sm d && d.showable && d.leavesShort 40 && decide (d.bulk ≤ b) && decide (d.depth ≤ m)
abbrev gs (d : PyData) : Bool := gB 40 2 d
abbrev gd (d : PyData) : Bool := gB 400 5 d
theorem gB_iff {b m : Nat} {d : PyData} : gB b m d = true ↔ sm d = true ∧ d.showable = true ∧ d.leavesShort 40 = true ∧ d.bulk ≤ b ∧ d.depth ≤ m := by
  unfold gB
  simp only [Bool.and_eq_true, decide_eq_true_eq, and_assoc]
theorem gs_gd {d : PyData} (h : gs d = true) : gd d = true := by
  obtain ⟨h1, h2, h3, h4, h5⟩ := gB_iff.mp h
  exact gB_iff.mpr ⟨h1, h2, h3, by omega, by omega⟩
theorem gs_all : ∀ {ds : List PyData}, ds.all gs = true → smAll ds = true ∧ PyData.showableAll ds = true ∧ PyData.leavesShortAll 40 ds = true ∧ PyData.bulkAll ds ≤ 41 * ds.length ∧ PyData.depthAll ds ≤ 2
  | [], _ => by
    refine ⟨by rw [smAll], by rw [PyData.showableAll], by rw [PyData.leavesShortAll], by rw [PyData.bulkAll]; exact Nat.zero_le _, by rw [PyData.depthAll]; exact Nat.zero_le _⟩
  | d :: r, h => by
    rw [List.all_cons, Bool.and_eq_true] at h
    obtain ⟨h1, h2, h3, h4, h5⟩ := gB_iff.mp h.1
    obtain ⟨r1, r2, r3, r4, r5⟩ := gs_all h.2
    refine ⟨by rw [smAll, h1, r1]; rfl, by rw [PyData.showableAll, h2, r2]; rfl, by rw [PyData.leavesShortAll, h3, r3]; rfl, ?_, ?_⟩
    · rw [PyData.bulkAll, List.length_cons]
      omega
    · rw [PyData.depthAll]
      exact Nat.max_le.mpr ⟨h5, r5⟩
theorem gd_list {ds : List PyData} (h : ds.all gs = true) (l : ds.length ≤ 6) : gd (.list ds) = true := by
  obtain ⟨r1, r2, r3, r4, r5⟩ := gs_all h
  refine gB_iff.mpr ⟨?_, ?_, ?_, ?_, ?_⟩
  · rw [sm, r1, decide_eq_true (show ds.length ≤ 1000 by omega)]; rfl
  · rw [PyData.showable]; exact r2
  · rw [PyData.leavesShort]; exact r3
  · rw [PyData.bulk]; omega
  · rw [PyData.depth]; omega
theorem gd_tuple {ds : List PyData} (h : ds.all gs = true) (l : ds.length ≤ 6) : gd (.tuple ds) = true := by
  obtain ⟨r1, r2, r3, r4, r5⟩ := gs_all h
  refine gB_iff.mpr ⟨?_, ?_, ?_, ?_, ?_⟩
  · rw [sm, r1, decide_eq_true (show ds.length ≤ 1000 by omega)]; rfl
  · rw [PyData.showable]; exact r2
  · rw [PyData.leavesShort]; exact r3
  · rw [PyData.bulk]; omega
  · rw [PyData.depth]; omega
theorem gd_fits {d : PyData} (h : gd d = true) : Fits d := by
  obtain ⟨h1, h2, h3, h4, h5⟩ := gB_iff.mp h
  refine ⟨h2, by omega, ?_⟩
  have := PyData.shown_le_bulk 40 (by decide) d h3
  rw [sizeLine_eq]
  omega
theorem gs_leaf {v : V} (h : leafOk v = true) : gs (flD v) = true := by
  cases v with
  | non => decide +kernel
  | bl b => cases b <;> decide +kernel
  | int i =>
    have hi : i.natAbs ≤ 10 ^ 30 := of_decide_eq_true h
    have e30 : (10 : Nat) ^ 30 < 2 ^ 100 := by decide
    refine gB_iff.mpr ⟨rfl, ?_, ?_, Nat.zero_le _, Nat.zero_le _⟩
    · show (PyData.int i).showable = true
      rw [PyData.showable]
      refine decide_eq_true ?_
      by_cases hz : i.natAbs = 0
      · rw [hz]; decide
      · have := (Nat.log2_lt (k := 100) hz).mpr (by omega)
        omega
    · show (PyData.int i).leavesShort 40 = true
      rw [PyData.leavesShort]
      refine decide_eq_true ?_
      have e := int_text_length_le10 (k := 31) (a := i) (by decide) (Nat.lt_of_le_of_lt hi (by decide))
      show (Str.ofString (toString i)).length ≤ 40
      rw [PySem.ofString_length]
      omega
  | str x =>
    have hx : (decide (x.length ≤ 9) && x.cps.toList.all fun c => decide (c < 128)) = true := h
    rw [Bool.and_eq_true] at hx
    have h9 := of_decide_eq_true hx.1
    refine gB_iff.mpr ⟨?_, rfl, ?_, ?_, Nat.zero_le _⟩
    · show sm (.str x) = true
      rw [sm]
      exact decide_eq_true (by omega)
    · show (PyData.str x).leavesShort 40 = true
      rw [PyData.leavesShort]
      refine List.all_eq_true.mpr fun c hc => ?_
      have := of_decide_eq_true (List.all_eq_true.mp hx.2 c hc)
      exact decide_eq_true (Nat.lt_trans this (by decide))
    · show (PyData.str x).bulk ≤ 40
      rw [PyData.bulk]
      have : x.cps.size = x.length := rfl
      omega
  | _ => exact absurd h (fun z => nomatch z)
theorem gs_leaves : ∀ {xs : List V}, xs.all leafOk = true → (xs.map flD).all gs = true
  | [], _ => rfl
  | x :: r, h => by
    rw [List.all_cons, Bool.and_eq_true] at h
    rw [List.map_cons, List.all_cons, gs_leaf h.1, gs_leaves h.2]; rfl

/-! ### what is new -/
def nw (H H' : Hp) : Hp := fun a => if H a = none then H' a else none
theorem nw_new {H H' : Hp} {a : Addr} (h : H a = none) : nw H H' a = H' a := if_pos h
theorem nw_some {H H' : Hp} {a : Addr} {o : HO} (h : nw H H' a = some o) : H a = none ∧ H' a = some o := by
  by_cases e : H a = none
  · rw [nw_new e] at h
    exact ⟨e, h⟩
  · unfold nw at h
    rw [if_neg e] at h
    cases h
theorem nw_ex (H H' : Hp) : Ex (nw H H') H' := fun a o h => (nw_some h).2
theorem nw_mono {p : Addr} {H H1 H2 : Hp} (pot : Pot H p) (d : Drew p H1 H2) : Ex (nw H H1) (nw H H2) := fun a o h => by
  obtain ⟨h1, h2⟩ := nw_some h
  rw [nw_new h1]
  refine d.at (fun e => ?_) h2
  obtain ⟨x, y, z, _⟩ := pot
  rw [← e, h1] at z
  cases z
theorem pot_none {H : Hp} {p a : Addr} (pot : Pot H p) (h : H a = none) : a ≠ p := fun e => by
  obtain ⟨x, y, z, _⟩ := pot
  rw [← e, h] at z
  cases z
theorem cast_drew {p : Addr} {H Hf H' : Hp} (_ : Ex H Hf) (d : Drew p Hf H') : Drew p Hf H' := d
section
variable {P : Program} {w : World} {K : PySem.W.Frag} {mg : Str → Option Value} {base : Heap}
end
end Cr
namespace Cr
open PySem PySem.Spec PyProof.Rows L2 Evl
abbrev sTold : Stmt := topS 40
abbrev nTold : List Str := ["_law_way", "_law_value", "_law_told_here", "e", "_law_is_other"]
theorem scTold : FnScope nTold ["_law_way", "_law_value"] (defScope sTold) := ⟨rfl, rfl, rfl, by decide +kernel, rfl, by decide +kernel, by decide +kernel⟩
def dueV : Option Int → V
  | some i => .int i
  | none => .non
def modsOf : PyData → List Str
  | .list ds => ds.filterMap modO
  | _ => []
/-- modules_in: the sorted list, or the error -/
def spMods (C : Addr) : Sp := fun vs H Q E => ∃ v d, vs = [v] ∧ Dt H v d ∧ sm d = true ∧ (dueOf none false d = none → ∀ T ys H', H T = none → Ex H H' → H' T = some (.lst (ys.map V.str)) → ys.Nodup → sortedS ys = true → (∀ x, x ∈ ys ↔ x ∈ modsOf d) → Q (.ref T) H') ∧
  ∀ i, dueOf none false d = some i → ∀ dx H', H dx = none → Ex H H' → H' dx = some (.xd [("position", .int i)]) → E (.ref C) (some dx) H'
def spTold : Sp := fun vs H Q _ => ∃ (way : Nat) (v : V) (d : PyData), vs = [.int (way : Int), v] ∧ way < 4 ∧ Dt H v d ∧ sm d = true ∧ ∀ H', Ex H H' → Q (dueV (dueOf none (decide (way = 1)) d)) H'
/-- a def that may raise, as it is called -/
structure HasX (P : Program) (w : World) (K : PySem.W.Frag) (mg : Str → Option Value) (base : Heap) (k : Nat) (x : Str) (ps : List Str) (sp : Sp) : Prop where
  ex : ∃ f fd, FnG P w K mg base (L2.CX P w) k f fd ps sp ∧ Binds K fd ps [] ∧ PySem.W.keepIn K (.ref f) = true ∧ mg x = some (.ref f)
/-- the classes of the errors -/
structure ErrC (K : PySem.W.Frag) (mg : Str → Option Value) (C L C1 C2 C3 : Addr) : Prop where
  gC : mg "InvalidProgram" = some (.ref C)
  gL : mg "LoaderError" = some (.ref L)
  g1 : mg "InvalidLibrary" = some (.ref C1)
  g2 : mg "InvalidMains" = some (.ref C2)
  g3 : mg "InvalidText" = some (.ref C3)
  ec : ExcC K C
  xf : XfC K C
  pos : PySem.W.findIn K (.ref C) "position" = some none
  exm : PySem.W.exmOne K (.ref C) (.ref L) = some true
  is1 : PySem.W.kitOne K (.ref C) (.ref C1) = some false
  is2 : PySem.W.kitOne K (.ref C) (.ref C2) = some false
  is3 : PySem.W.kitOne K (.ref C) (.ref C3) = some false
  isV : PySem.W.kitOne K (.ref C) (.type "ValueError") = some true
  isC : PySem.W.kitOne K (.ref C) (.ref C) = some true
/-- what the suite says -/
def tSuite (K : PySem.W.Frag) (C C1 C2 C3 a dd : Addr) : TS := tSeq (tAsg (tOrV (tCB (rIsX K C a dd) (tCons (tVar 3) (tCons (tTup (tCons (tC (.ref C1)) (tCons (tC (.ref C2)) (tCons (tC (.ref C3)) tNil)))) tNil)))
    (tNotV (tCB (rIsX K C a dd) (tCons (tVar 3) (tCons (tC (.ty "ValueError")) tNil))))) (gName 4))
  (tAsg (tIf (tAnd (tB (tCB (rIsX K C a dd) (tCons (tVar 3) (tCons (tC (.ref C)) tNil)))) (tNot (tB (tVar 4)))) (tXf a (.ref C) (some dd) C "position" (tVar 3)) (tC (.str "other"))) (gName 2))
/-- the suite's reading holds for that class alone -/
def tFor1 (C : Addr) (t : Addr → TS) (cls : Value) (d : Option Addr) : TS := fun D σ H => ∃ dd, cls = .ref C ∧ d = some dd ∧ t dd D σ H
section
variable {P : Program} {w : World} {K : PySem.W.Frag} {mg : Str → Option Value} {base : Heap}
theorem ok_told {f C L C1 C2 C3 : Addr} {fd : FuncData} {k : Nat} (F : Fun K "_law_told" "_law_told" sTold f fd) (B : Blt mg) (T : ErrC K mg C L C1 C2 C3) (h1 : HasC P w K mg base k C) (h2 : HasX P w K mg base k "modules_in" ["program"] (spMods C)) :
    FnG P w K mg base CX0 (k + 1) f fd ["_law_way", "_law_value"] spTold := by
  obtain ⟨f1, d1, G1, ⟨ds1, vd1, b1⟩, ⟨gg, kb1⟩, k1, g1⟩ := h1.ex
  replace G1 := FnG.ofOk G1
  obtain ⟨f2, d2, G2, b2, k2, g2⟩ := h2.ex
  refine okG F scTold (fun vs H Q E h => by obtain ⟨_, _, _, rfl, _⟩ := h; rfl) (fun cdv A outer s H vs Q E hq hr h => ?_)
  obtain ⟨way, v, d, rfl, hw, hd, hs, q⟩ := h
  refine ⟨_, pss_cons (ps_set (i := 2) scTold.nd rfl (.inl rfl) pe_non)
    (pss_cons (ps_try_as (i := 3) (x := "LoaderError") (c := .ref L) (Wout := fun _ _ _ _ => False) rfl rfl scTold.nd rfl rfl ⟨by rfl, by decide, .inl T.gL⟩ takes0
        (fun W pn xe tk po => pss_one (ps_if (pt_cmpR op_eq (pv 0) pe_int (nomark _)) (pss_one (ps_expr (callGS (E := WE W) G1 hq hr (by rfl) g1 k1 b1 vd1 (fun σ => passAt tk σ) (pa_cons (pv 1) pa_nil))))
          (pss_one (ps_if (pt_cmpR op_eq (pv 0) pe_int (nomark _)) (pss_one (ps_expr (callGN (E := WE W) G1 hq hr (by rfl) g1 k1 kb1 (fun σ => passAt tk σ) (pa_cons (pv 1) pa_nil) (pk_cons pe_bl pk_nil))))
            (pss_one (ps_if (pt_cmpR op_eq (pv 0) pe_int (nomark _)) (pss_one (ps_expr (callGN (E := WE W) G1 hq hr (by rfl) g1 k1 kb1 (fun σ => passAt tk σ) (pa_cons (pv 1) pa_nil) (pk_cons pe_bl pk_nil))))
              (pss_one (ps_expr (callGS (E := WE W) G2 hq hr (by rfl) g2 k2 b2 .nil (fun σ => passAt tk σ) (pa_cons (pv 1) pa_nil))))))))))
        (ts := fun a => tFor1 C fun dd => tSuite K C C1 C2 C3 a dd)
        (fun a oe cls d pn hz hf => ⟨fun pins s σ H D I h => by
          obtain ⟨dd, rfl, rfl, h⟩ := h
          exact PSs.run (pss_cons (ps_set (i := 4) scTold.nd rfl (.inl rfl) (pe_or (pe_callB (call_isX T.ec hz hf) (by rfl) B.isi bIsi (pa_cons (pv 3) (pa_cons (pe_tup (pa_cons (pe_glob (v := .ref C1) (by rfl) T.g1 rfl) (pa_cons (pe_glob (v := .ref C2) (by rfl) T.g2 rfl) (pa_cons (pe_glob (v := .ref C3) (by rfl) T.g3 rfl) pa_nil)))) pa_nil)))
              (pe_one (pe_not (pe_callB (call_isX T.ec hz hf) (by rfl) B.isi bIsi (pa_cons (pv 3) (pa_cons (pe_bltn (v := .ty "ValueError") (by rfl) B.verr bVerr rfl) pa_nil)))))))
            (pss_one (ps_set (i := 2) scTold.nd rfl (.inl rfl) (pe_ifExp (PW.pt (pw_and (pt_val (pe_callB (call_isX T.ec hz hf) (by rfl) B.isi bIsi (pa_cons (pv 3) (pa_cons (pe_glob (v := .ref C) (by rfl) T.gC rfl) pa_nil)))) (pw_and1 (pt_not (pt_val (pv 4))))))
              (pe_xf T.xf T.pos hz hf (pv 3)) pe_str)))) pins s σ H D I h⟩))
    (pss_one (ps_ret (pv 2)))), ?_⟩
  refine q_asg ev_c fun H1 e1 => ?_
  have hd1 := Dt.ex e1 hd
  -- the end
  have fin : ∀ {y3 y4 : Option V} {H2 : Hp}, Ex H1 H2 → tRet (tVar 2) { nx := fun _ H' => Q .non H', rt := Q } [some (.int (way : Int)), some v, some (dueV (dueOf none (decide (way = 1)) d)), y3, y4] H2 := fun e2 => s_ret (ev_var rfl) fun H3 e3 => q H3 ((e1.trans e2).trans e3)
  -- the clause
  have caught : ∀ {i : Int} {H2 : Hp} {dx : Addr}, dueOf none (decide (way = 1)) d = some i → Ex H1 H2 → H2 dx = some (.xd [("position", .int i)]) →
      wAs K (.ref L) 3 (fun a => tFor1 C fun dd => tSuite K C C1 C2 C3 a dd) (fun _ _ _ _ => False) { ({ nx := fun _ H' => Q .non H', rt := Q } : Ends) with nx := tRet (tVar 2) { nx := fun _ H' => Q .non H', rt := Q } } (.ref C) (some dx)
        [some (.int (way : Int)), some v, some .non, none, none] H2 := fun {i H2 dx} hi e2 hx => by
    refine ⟨true, T.exm, fun _ a ha => ⟨dx, rfl, rfl, ?_⟩, fun z => nomatch z⟩
    have isT3 : Ev (tCB (rIsX K C a dx) (tCons (tVar 3) (tCons (tTup (tCons (tC (.ref C1)) (tCons (tC (.ref C2)) (tCons (tC (.ref C3)) tNil)))) tNil))) [some (.int (way : Int)), some v, some .non, some (.ref a), none] H2 (.bl false) := fun H3 e3 Q' q' =>
      ⟨.ref a, rfl, by show 3 ≤ sizeLine; decide, fun tp ztp => ⟨.ref tp, false, rfl, ⟨_, Ex.new ztp _ _ (e3 _ _ hx)⟩, .inr ⟨tp, _, [.ref C1, .ref C2, .ref C3], rfl, upd_same, .cons (.own C1) (.cons (.own C2) (.cons (.own C3) .nil)),
        kitAny_cons T.is1 (fun _ => kitAny_cons T.is2 (fun _ => kitAny_cons T.is3 (fun _ => kitAny_nil) (fun z => nomatch z)) (fun z => nomatch z)) (fun z => nomatch z)⟩, q' _ (Ex.new ztp)⟩⟩
    have isOne : ∀ {σ : L2.St} {H3 : Hp} {c : V} {u : Value} {b : Bool}, Ex H2 H3 → σ[3]? = some (some (.ref a)) → ClsV c u → PySem.W.kitOne K (.ref C) u = some b → Ev (tCB (rIsX K C a dx) (tCons (tVar 3) (tCons (tC c) tNil))) σ H3 (.bl b) := fun e3 h3 kc kb H4 e4 Q' q' =>
      ⟨.ref a, h3, _, _, rfl, ⟨_, e4 _ _ (e3 _ _ hx)⟩, .inl ⟨_, kc, kb⟩, q' _ (Ex.refl _)⟩
    refine q_asg (ev_orV (b := false) isT3 fun _ => ev_is (ev_notV (isOne (Ex.refl _) rfl (.ty "ValueError") T.isV)) rfl) fun H3 e3 => ?_
    refine s_asg (v := .int i) (ev_if (b := true) (et_is (et_and (b := true) (et_B (isOne e3 rfl (.own C) T.isC)) fun _ => et_is (et_not (et_B (ev_var rfl))) rfl) rfl) (fun _ H4 e4 Q' q' => ⟨.ref a, rfl, rfl, rfl, dx, _, .int i, rfl, e4 _ _ (e3 _ _ hx), by simp [List.lookup], q' _ (Ex.refl _)⟩) fun z => nomatch z) fun H4 e4 => ?_
    have g := fin (y3 := none) (y4 := some (.bl (false || false))) ((e2.trans e3).trans e4)
    rw [hi] at g
    exact g
  have chk : ∀ {main : Bool} {H2 : Hp}, Ex H1 H2 → decide (way = 1) = main → spCheck C [v, .bl main] H2 (fun _ H' => tRet (tVar 2) { nx := fun _ H' => Q .non H', rt := Q } [some (.int (way : Int)), some v, some .non, none, none] H')
      (WE (wAs K (.ref L) 3 (fun a => tFor1 C fun dd => tSuite K C C1 C2 C3 a dd) (fun _ _ _ _ => False) { ({ nx := fun _ H' => Q .non H', rt := Q } : Ends) with nx := tRet (tVar 2) { nx := fun _ H' => Q .non H', rt := Q } }) [some (.int (way : Int)), some v, some .non, none, none]) := fun {main H2} e2 hm => by
    refine ⟨v, d, main, rfl, Dt.ex e2 hd1, hs, fun hn H3 e3 => ?_, fun i hi dx H3 _ e3 hx => caught (by rw [hm]; exact hi) (e2.trans e3) hx⟩
    have g := fin (y3 := none) (y4 := none) (e2.trans e3)
    rw [hm, hn] at g
    exact g
  have tst : ∀ {n : Int} {H2 : Hp}, EvT (tTest (tOp rEq (tVar 0) (tC (.int n)))) [some (.int (way : Int)), some v, some .non, none, none] H2 (decide (V.int (way : Int) = V.int n)) := et_test (ev_op (ev_var rfl) ev_c (rv_eq rfl))
  have dec : ∀ {n : Int}, decide (V.int (way : Int) = V.int n) = true → (way : Int) = n := fun h => V.int.inj (of_decide_eq_true h)
  have dec0 : ∀ {n : Int}, decide (V.int (way : Int) = V.int n) = false → (way : Int) ≠ n := fun h e => of_decide_eq_false h (congrArg V.int e)
  refine s_if tst (fun hb H2 e2 => ?_) (fun hb0 H2 e2 => s_if tst (fun hb H3 e3 => ?_) (fun hb1 H3 e3 => s_if tst (fun hb H4 e4 => ?_) (fun hb2 H4 e4 => ?_)))
  · have hw0 := dec hb
    exact ⟨v, rfl, chk e2 (decide_eq_false (by omega))⟩
  · have hw0 := dec hb
    exact ⟨v, rfl, rfl, rfl, chk (e2.trans e3) (decide_eq_true (by omega))⟩
  · have hw0 := dec hb
    exact ⟨v, rfl, rfl, rfl, chk ((e2.trans e3).trans e4) (decide_eq_false (by omega))⟩
  · have n1 := dec0 hb1
    have hm : decide (way = 1) = false := decide_eq_false (by omega)
    have e24 := (e2.trans e3).trans e4
    refine ⟨v, rfl, v, d, rfl, Dt.ex e24 hd1, hs, fun hn T5 ys5 H5 _ e5 _ _ _ _ => ?_, fun i hi dx H5 _ e5 hx => caught (by rw [hm]; exact hi) (e24.trans e5) hx⟩
    have g := fin (y3 := none) (y4 := none) (e24.trans e5)
    rw [hm, hn] at g
    exact g
end
end Cr
namespace Cr
open PySem PySem.Spec PyProof.Rows L2 Evl
theorem fits_none (d : PyData) (n : Int) : fitsIn none d n = isBefore d n := Bool.and_true _
abbrev sWrong : Stmt := topS 38
abbrev sDue : Stmt := topS 39
abbrev nDue : List Str := ["_law_value", "_law_is_first", "_law_wrong", "_law_at", "_law_step_here"]
theorem scWrong : FnScope ["_law_step_here", "_law_after", "_law_is_first"] ["_law_step_here", "_law_after", "_law_is_first"] (defScope sWrong) := ⟨rfl, rfl, rfl, by decide +kernel, rfl, by decide +kernel, by decide +kernel⟩
theorem scDue : FnScope nDue ["_law_value", "_law_is_first"] (defScope sDue) := ⟨rfl, rfl, rfl, by decide +kernel, rfl, by decide +kernel, by decide +kernel⟩
def wrong1 (d : PyData) (n : Int) (main : Bool) : Bool := !isBefore d n || (main && isExport d)
def spWrong : Sp := fun vs H Q _ => ∃ v d n main, vs = [v, .int n, .bl main] ∧ Dt H v d ∧ sm d = true ∧ ∀ H', Ex H H' → Q (.bl (wrong1 d n main)) H'
theorem spv_wrong {H : Hp} {v : V} {d : PyData} {n : Int} {main : Bool} (h : Dt H v d) (s : sm d = true) : SpV spWrong [v, .int n, .bl main] H (.bl (wrong1 d n main)) := fun H1 e Q q E => ⟨v, d, n, main, rfl, Dt.ex e h, s, q⟩
/-- len of a list or a tuple -/
def rLenQ (K : PySem.W.Frag) : List V → Hp → VK → Prop := fun xs H Q => ∃ p ys, xs = [V.ref p] ∧ (SqL K H p ys ∨ SqT K H p ys) ∧ Q (.int (ys.length : Int)) H
def spDue : Sp := fun vs H Q _ => ∃ v d main, vs = [v, .bl main] ∧ Dt H v d ∧ sm d = true ∧ ∀ H', Ex H H' → Q (dueV (dueOf none main d)) H'
theorem spv_due {H : Hp} {v : V} {d : PyData} {main : Bool} (h : Dt H v d) (s : sm d = true) : SpV spDue [v, .bl main] H (dueV (dueOf none main d)) := fun H1 e Q q E => ⟨v, d, main, rfl, Dt.ex e h, s, q⟩
def intsD (l : List Nat) : List PyData := l.map fun (i : Nat) => PyData.int (i : Int)
def intsV (l : List Nat) : List V := l.map fun (i : Nat) => V.int (i : Int)
theorem dp_ints {K : PySem.W.Frag} {H : Hp} : ∀ l : List Nat, DpAll K H (intsV l) (intsD l)
  | [] => .nil
  | i :: r => .cons (.int i) (dp_ints r)
theorem lay_ints : ∀ l : List Nat, PyData.canLayAll0 (intsD l) = true ∧ PyData.depthAll (intsD l) = 0
  | [] => ⟨rfl, rfl⟩
  | i :: r => by
    have ih := lay_ints r
    refine ⟨?_, ?_⟩
    · show (true && PyData.canLayAll0 (intsD r)) = true
      rw [ih.1]; rfl
    · show max 0 (PyData.depthAll (intsD r)) = 0
      rw [ih.2]; rfl
theorem shaped_ints (l : List Nat) : SeqAt.shaped (.list (intsD l)) = true := by
  unfold SeqAt.shaped
  have h := lay_ints l
  show (PyData.canLayAll0 (intsD l) && decide (PyData.depthAll (intsD l) + 1 ≤ 64)) = true
  rw [h.1, h.2]
  decide
theorem eqv_nil (l : List Nat) : PyData.eqv (.list (intsD l)) (.list []) = l.isEmpty := by
  cases l with
  | nil => decide +kernel
  | cons i r => first | rfl | (show PyData.eqvAll (PyData.int (i : Int) :: intsD r) [] = false; simp [PyData.eqvAll]) | simp [intsD, PyData.eqv, PyData.eqvAll]
theorem find_filter {α : Type} (p : α → Bool) : ∀ l : List α, l.find? p = (l.filter p).head?
  | [] => rfl
  | x :: r => by
    rw [List.find?_cons, List.filter_cons]
    cases p x with
    | true => rfl
    | false => exact find_filter p r
section
variable {P : Program} {w : World} {K : PySem.W.Frag} {mg : Str → Option Value} {base : Heap}
theorem ok_wrong {f : Addr} {fd : FuncData} {k : Nat} (F : Fun K "_law_is_wrong" "_law_is_wrong" sWrong f fd) (h1 : Has P w K mg base k "_law_is_right_step" ["_law_value"] (spD isStep)) :
    FnG P w K mg base CX0 (k + 1) f fd ["_law_step_here", "_law_after", "_law_is_first"] spWrong := by
  obtain ⟨f1, d1, G1, b1, k1, g1⟩ := h1.ex
  refine okG F scWrong (fun vs H Q E h => by obtain ⟨_, _, _, _, rfl, _⟩ := h; rfl) (fun cdv A outer s H vs Q E hq hr h => ?_)
  obtain ⟨v, d, n, main, rfl, hd, hs, q⟩ := h
  refine ⟨_, pss_cons (ps_if (PW.pt (pw_or (pt_not (pt_val (callG G1 hq hr (by rfl) g1 k1 b1 .nil pass0 (pa_cons (pv 0) pa_nil)))) (pw_or1 (PW.pt (pw_and (pt_val (pv 2)) (pw_and1 (pt_cmpR op_eq (pe_ix ix_tup (pv 0) pe_int (fun _ _ => rfl)) pe_str (nomark _)))))))) (pss_one (ps_ret pe_bl)) pss_nil)
    (pss_one (ps_ret (pe_and (pe_cmpR op_eq (pe_ix ix_tup (pv 0) pe_int (fun _ _ => rfl)) pe_str (nomark _)) (pe_one (pe_cmpR op_gt (pe_ix ix_tup (pv 0) pe_int (fun _ _ => rfl)) (pv 1) (nomark _)))))), ?_⟩
  have hdr : isStep d = true → ∃ a z ds xs, v = .ref a ∧ d = .tuple (.str z :: ds) ∧ H a = some (.tup (.str z :: xs)) ∧ DtAll H xs ds := fun hb => by
    obtain ⟨z, ds, rfl⟩ := step_form hb
    have ha : ∃ a, v = .ref a := by cases hd; exact ⟨_, rfl⟩
    obtain ⟨a, rfl⟩ := ha
    obtain ⟨xs, hx, hds⟩ := dt_tup hd
    cases hds with
    | cons h0 hr1 =>
      cases h0
      exact ⟨a, z, ds, _, rfl, rfl, hx, hr1⟩
  have eqS : ∀ {z y : Str}, decide (V.str z = V.str y) = (z == y) := fun {z y} => by
    by_cases hz : z = y
    · subst hz; rw [decide_eq_true rfl, beq_self_eq_true]
    · rw [decide_eq_false (fun e => hz (V.str.inj e)), beq_eq_false_iff_ne.mpr hz]
  refine q_when (b := !isStep d || (main && isExport d)) (et_or (et_not (et_B (ev_call (ea_cons (ev_var rfl) ea_nil) (spv_D hd hs)))) fun hb => ?_) (fun hb H1 e1 => ?_) (fun hb H1 e1 => ?_)
  · have st : isStep d = true := by rw [Bool.not_eq_false'] at hb; exact hb
    obtain ⟨a, z, ds, xs, rfl, rfl, hx, hds⟩ := hdr st
    exact et_and (et_B (ev_var rfl)) fun _ => et_is (et_test (ev_op (ev_op (ev_var rfl) ev_c (rv_ixT (st_of hx) (atI_nat (j := 0) rfl))) ev_c (rv_eq rfl))) eqS
  · refine s_ret ev_c fun H2 e2 => ?_
    have g := q H2 (e1.trans e2)
    have ew : wrong1 d n main = true := by
      unfold wrong1 isBefore
      rw [Bool.or_eq_true] at hb
      rcases hb with hb | hb
      · rw [Bool.not_eq_true'] at hb
        rw [hb]
        rfl
      · rw [hb, Bool.or_true]
    rw [ew] at g
    exact g
  · rw [Bool.or_eq_false_iff] at hb
    have st : isStep d = true := by have := hb.1; rw [Bool.not_eq_false'] at this; exact this
    have ew : wrong1 d n main = !skipOk n d := by
      unfold wrong1 isBefore
      rw [hb.2, st, Bool.true_and, Bool.or_false]
    rw [ew] at q
    obtain ⟨a, z, ds, xs, rfl, rfl, hx, hds⟩ := hdr st
    refine s_ret (v := .bl (!skipOk n (.tuple (.str z :: ds)))) ?_ fun H2 e2 => q H2 (e1.trans e2)
    have hx1 := e1 _ _ hx
    by_cases hz : z = "skip"
    · subst hz
      obtain ⟨x, i, rfl⟩ := skip_form st
      cases hds with
      | cons h1 hr2 =>
        cases hr2 with
        | cons h2 hr3 =>
          cases h2; cases hr3
          refine ev_is (ev_andV (b := decide (i > n)) (ev_op (ev_op (ev_var rfl) ev_c (rv_ixT (st_of hx1) (atI_nat (j := 0) rfl))) ev_c (rv_eq rfl)) fun _ => ev_op (ev_op (ev_var rfl) ev_c (rv_ixT (st_of hx1) (atI_nat (j := 2) rfl))) (ev_var rfl) rv_I0) ?_
          show V.bl (decide (V.str "skip" = V.str "skip") && decide (i > n)) = V.bl (!decide (i ≤ n))
          rw [decide_eq_true rfl, Bool.true_and, ← decide_not]
          exact congrArg V.bl (decide_eq_decide.mpr (by omega))
    · refine ev_is (ev_andV (b := false) (ev_op (ev_op (ev_var rfl) ev_c (rv_ixT (st_of hx1) (atI_nat (j := 0) rfl))) ev_c (rv_eq rfl)) fun hb2 => ?_) ?_
      · exact absurd (V.str.inj (of_decide_eq_true hb2)) hz
      · have e : skipLen (.tuple (.str z :: ds)) = none := by
          unfold skipLen
          split
          · rename_i z' _ i _ e2
            cases e2
            rw [if_neg hz]
          · rfl
        rw [Bool.and_false]
        unfold skipOk
        rw [e]
        rfl
theorem ok_due {f : Addr} {fd : FuncData} {k : Nat} (F : Fun K "_law_due" "_law_due" sDue f fd) (B : Blt mg) (h1 : Has P w K mg base k "_law_is_wrong" ["_law_step_here", "_law_after", "_law_is_first"] spWrong) :
    FnG P w K mg base CX0 (k + 1) f fd ["_law_value", "_law_is_first"] spDue := by
  obtain ⟨f1, d1, G1, b1, k1, g1⟩ := h1.ex
  refine okG F scDue (fun vs H Q E h => by obtain ⟨_, _, _, rfl, _⟩ := h; rfl) (fun cdv A outer s H vs Q E hq hr h => ?_)
  obtain ⟨v, d, main, rfl, hd, hs, q⟩ := h
  refine ⟨_, pss_cons (ps_if (PW.pt (pw_or (pt_not (pt_val (pe_callB call_isi (by rfl) B.isi bIsi (pa_cons (pv 0) (pa_cons (pe_bltn (v := .ty "list") (by rfl) B.list bList rfl) pa_nil)))))
      (pw_or1 (pt_cmpR op_gt (pe_callB call_len_seq (by rfl) B.len bLen (pa_cons (pv 0) pa_nil)) pe_int (nomark _))))) (pss_one (ps_ret (pe_un un_neg pe_int))) pss_nil)
    (pss_cons (ps_setLc (i := 2) (own := [("_law_at", 3), ("_law_step_here", 4)]) (g := gTup K 2 (gCons (gName 3) (gCons (gName 4) gNil))) (tt := tB (tCall spWrong [] E0 (tCons (tVar 4) (tCons (tOp (rI0 fun i j => .int (i - j)) (tOp (rI0 fun i j => .int (i - j)) (tCB (rLenQ K) (tCons (tVar 0) tNil)) (tC (.int 1))) (tVar 3)) (tCons (tVar 1) tNil))))) rfl scDue.nd rfl rfl (sw_true rfl rfl rfl (by decide +kernel)) (pi_enum (by rfl) B.enum (pa_cons (pv 0) pa_nil))
        (blkOk_by (own := [("_law_at", 3), ("_law_step_here", 4)]) (N := nDue) (sc := defScope sDue) (by decide +kernel))
        (fun _ _ _ _ _ => by exact pg_tup rfl (pgs_cons (pg_name (i := 3) scDue.nd rfl (Or.inl rfl)) (pgs_cons (pg_name (i := 4) scDue.nd rfl (Or.inl rfl)) pgs_nil)))
        (fun _ _ _ _ _ => by exact pts_one (pt_val (callG G1 hq hr (by rfl) g1 k1 b1 .nil pass0 (pa_cons (pv 4) (pa_cons (pe_op op_sub (pe_op op_sub (pe_callB call_len_seq (by rfl) B.len bLen (pa_cons (pv 0) pa_nil)) pe_int) (pv 3)) (pa_cons (pv 1) pa_nil))))))
        (fun _ _ _ _ _ => pv 3))
    (pss_one (ps_ret (pe_ifExp (pt_cmpR (op_neD hr.units) (pv 2) (pe_lst pa_nil) (nomark _)) (pe_ix ix_list (pv 2) pe_int (fun _ _ => rfl)) pe_non)))), ?_⟩
  have isL := rc_isi (K := K) (T := "list") hd (by decide)
  refine q_when (b := !isT "list" d || tooLong d) (et_or (et_not (et_B (ev_cb (ea_cons (ev_var rfl) (ea_cons ev_c ea_nil)) isL))) fun hb => ?_) (fun hb H1 e1 => ?_) (fun hb H1 e1 => ?_)
  · have hL : isT "list" d = true := by rw [Bool.not_eq_false'] at hb; exact hb
    obtain ⟨a, xs, ds, rfl, rfl, hx, hds⟩ := list_form hd hL
    refine et_is (et_test (ev_op (ev_cb (ea_cons (ev_var rfl) ea_nil) (rc_lenL (sq_of hx))) ev_c rv_I0)) ?_
    show decide ((xs.length : Int) > 30) = decide (ds.length > 30)
    rw [hds.length]
    exact decide_eq_decide.mpr (by omega)
  · have hL : tooLong d = true := by
      cases d with
      | list ds =>
        have hb' : (!isT "list" (.list ds) || tooLong (.list ds)) = true := hb
        rw [show isT "list" (.list ds) = true from rfl, Bool.not_true, Bool.false_or] at hb'
        exact hb'
      | _ => rfl
    refine s_ret (ev_un ev_c ru_neg) fun H2 e2 => ?_
    have g := q H2 (e1.trans e2)
    rw [due_long hL] at g
    exact g
  · rw [Bool.or_eq_false_iff] at hb
    have hL : isT "list" d = true := by have := hb.1; rw [Bool.not_eq_false'] at this; exact this
    obtain ⟨a, xs, ds, rfl, rfl, hx, hds⟩ := list_form hd hL
    have h30 : ¬ ds.length > 30 := of_decide_eq_false hb.2
    have lx := hds.length
    have due : dueOf none main (.list ds) = (firstBad none main ds).map fun i => (i : Int) := if_neg h30
    have hx1 := e1 _ _ hx
    have lc := el_lcW (wi := iEnum K (tCons (tVar 0) tNil)) (g := gTup K 2 (gCons (gName 3) (gCons (gName 4) gNil))) (tt := tB (tCall spWrong [] E0 (tCons (tVar 4) (tCons (tOp (rI0 fun i j => .int (i - j)) (tOp (rI0 fun i j => .int (i - j)) (tCB (rLenQ K) (tCons (tVar 0) tNil)) (tC (.int 1))) (tVar 3)) (tCons (tVar 1) tNil))))) (te := tVar 3) (vs := [3, 4])
      (σ := [some (.ref a), some (.bl main), none, none, none]) (H := H1) (n := xs.length) (Y := YPair (fun i => some (.int (i : Nat))) fun i => xs[i]?) (wrongAt none main ds) (fun i => .int (i : Nat)) (by omega)
      (fun H5 e5 R r => ⟨.ref a, rfl, a, xs, rfl, sq_of (e5 _ _ hx1), r H5 _ _ (walk_enum (K := K) (a := a) (xs := xs)) (fun H7 H8 e7 z => ex_l e7 z) (Ex.refl H5) (sq_of (e5 _ _ hx1))⟩)
      (fun i y H5 H6 e5 hi hy => by
        obtain ⟨T', x0, y0, rfl, zT, rfl, hx0, hy0⟩ := hy
        have hx0' : V.int (i : Nat) = x0 := Option.some.inj hx0
        subst hx0'
        obtain ⟨dy, hdy, hDy⟩ := DtAll.get hds hy0
        have sy : sm dy = true := smAll_get (sm_all hs) hdy
        have gd0 : ds.getD i .none = dy := by rw [List.getD_eq_getElem?_getD, hdy]; rfl
        have eT := Ex.new (o := .tup [.int (i : Nat), y0]) zT
        have eH := (e1.trans e5).trans eT
        refine ⟨eT, [some (.ref a), some (.bl main), none, some (.int (i : Nat)), some y0], rfl, fun R r => pair_go upd_same r, ?_, fun _ => ev_var rfl⟩
        refine et_is (et_B (ev_call (ea_cons (ev_var rfl) (ea_cons (ev_op (ev_op (ev_cb (ea_cons (ev_var rfl) ea_nil) (rc_lenL (sq_of (eH _ _ hx)))) ev_c rv_I0) (ev_var rfl) rv_I0) (ea_cons (ev_var rfl) ea_nil))) (spv_wrong (Dt.ex eH hDy) sy))) ?_
        unfold wrongAt wrong1
        rw [fits_none]
        rw [gd0, lx]
        have e : ((ds.length : Int) - 1 - (i : Nat)) = (ds.length : Int) - (i : Nat) - 1 := by omega
        rw [e])
    refine q_asgL lc fun T H2 zT e2 hT => ?_
    have hT' : H2 T = some (.lst (intsV ((List.range ds.length).filter (wrongAt none main ds)))) := by
      rw [hT, lx]; rfl
    have fb : firstBad none main ds = ((List.range ds.length).filter (wrongAt none main ds)).head? := find_filter _ _
    generalize (List.range ds.length).filter (wrongAt none main ds) = L at hT' fb
    refine s_ret (v := dueV (dueOf none main (.list ds))) (ev_if (b := !L.isEmpty) (et_test (ev_opL (ev_var rfl) (el_lst ea_nil (by show 0 ≤ 100000; decide)) fun p H3 hp e3 => rv_val fun H4 e4 Q q => ⟨.list (intsD L), .list [], .lst (sq_of (e4 _ _ (e3 _ _ hT'))) (dp_ints L), .lst (sq_of (e4 _ _ hp)) .nil, shaped_ints L, by decide +kernel, by rw [eqv_nil]; exact q⟩))
      (fun hb => ?_) (fun hb => ?_)) fun H3 e3 => q H3 ((e1.trans e2).trans e3)
    · cases L with
      | nil => exact nomatch hb
      | cons i r =>
        refine ev_is (ev_op (ev_var rfl) ev_c (rv_ixL (sq_of hT') (atI_nat (j := 0) rfl))) ?_
        rw [due, fb]; rfl
    · cases L with
      | nil =>
        refine ev_is ev_c ?_
        rw [due, fb]; rfl
      | cons i r => exact nomatch hb
end
end Cr
namespace Cr
open PySem PySem.Spec PyProof.Rows L2 Evl
theorem nw_post {B H1 H2 : Hp} (e : Ex H1 H2) : Ex (nw B H1) (nw B H2) := fun a o h => by
  obtain ⟨h1, h2⟩ := nw_some h
  rw [nw_new h1]
  exact e _ _ h2
theorem nw_at {B H1 : Hp} {p : Addr} {o : HO} (b : Ex B H1) (hp : H1 p = none) : nw B (upd H1 p o) p = some o := by
  rw [nw_new (fresh_back b hp)]
  exact upd_same
/-- it makes the data d, of objects that B has not -/
def EvD (B : Hp) (te : TE) (σ : L2.St) (H : Hp) (d : PyData) : Prop := ∀ H1, Ex H H1 → ∀ Q : VK, (∀ v H2, Ex H1 H2 → Dt (nw B H2) v d → Q v H2) → te σ H1 Q
def EvDA (B : Hp) (ta : TA) (σ : L2.St) (H : Hp) (ds : List PyData) : Prop := ∀ H1, Ex H H1 → ∀ Q : List V → Hp → Prop, (∀ vs H2, Ex H1 H2 → DtAll (nw B H2) vs ds → Q vs H2) → ta σ H1 Q
section
variable {B H : Hp} {σ : L2.St} {te t1 t2 : TE} {ta : TA} {d : PyData} {ds es : List PyData} {v : V}
theorem ed_c (h : flatV v = true) : EvD B (tC v) σ H (flD v) := fun H1 _ Q q => q v H1 (Ex.refl H1) (dt_flat h)
theorem ed_neg {i : Int} : EvD B (tUn (rU fun i => .int (-i)) (tC (.int i))) σ H (.int (-i)) := fun H1 _ Q q => ⟨i, rfl, q _ H1 (Ex.refl H1) (.int _)⟩
theorem ed_var {i : Nat} (h : σ[i]? = some (some v)) (hd : Dt (nw B H) v d) : EvD B (tVar i) σ H d := fun H1 e Q q => ⟨v, h, q v H1 (Ex.refl H1) (Dt.ex (nw_post e) hd)⟩
theorem eda_nil : EvDA B tNil σ H [] := fun H1 _ Q q => q [] H1 (Ex.refl H1) .nil
theorem eda_cons {tr : TA} (h : EvD B te σ H d) (hr : EvDA B tr σ H ds) : EvDA B (tCons te tr) σ H (d :: ds) := fun H1 e Q q =>
  h H1 e _ fun v H2 e2 hv => hr H2 (e.trans e2) _ fun vs H3 e3 hvs => q (v :: vs) H3 (e2.trans e3) (.cons (Dt.ex (nw_post e3) hv) hvs)
theorem ed_tup (b : Ex B H) (h : EvDA B ta σ H ds) (hl : ds.length ≤ 100000) : EvD B (tTup ta) σ H (.tuple ds) := fun H1 e Q q =>
  h H1 e _ fun vs H2 e2 hd => ⟨sz_of (by rw [hd.length]; exact hl), fun p hp => q (.ref p) _ (e2.trans (Ex.new hp)) (.tup (nw_at ((b.trans e).trans e2) hp) (DtAll.ex (nw_post (Ex.new hp)) hd))⟩
theorem ed_lst (b : Ex B H) (h : EvDA B ta σ H ds) (hl : ds.length ≤ 100000) : EvD B (tLst ta) σ H (.list ds) := fun H1 e Q q =>
  h H1 e _ fun vs H2 e2 hd => ⟨sz_of (by rw [hd.length]; exact hl), fun p hp => q (.ref p) _ (e2.trans (Ex.new hp)) (.lst (nw_at ((b.trans e).trans e2) hp) (DtAll.ex (nw_post (Ex.new hp)) hd))⟩
theorem ed_dict0 (b : Ex B H) : EvD B tDNewK σ H (.dict []) := fun H1 e Q q p hp => q (.ref p) _ (Ex.new hp) (.dct (nw_at (b.trans e) hp) .nil)
theorem ed_cat (b : Ex B H) (h1 : EvD B t1 σ H (.list ds)) (h2 : EvD B t2 σ H (.list es)) (hl : ds.length + es.length ≤ 100000) : EvD B (tOp rCat t1 t2) σ H (.list (ds ++ es)) := fun H1 e Q q =>
  h1 H1 e _ fun x H2 e2 hx => h2 H2 (e.trans e2) _ fun y H3 e3 hy => by
    have fx : ∃ a xs, x = .ref a ∧ nw B H2 a = some (.lst xs) ∧ DtAll (nw B H2) xs ds := by
      cases hx with
      | lst h z => exact ⟨_, _, rfl, h, z⟩
    have fy : ∃ a xs, y = .ref a ∧ nw B H3 a = some (.lst xs) ∧ DtAll (nw B H3) xs es := by
      cases hy with
      | lst h z => exact ⟨_, _, rfl, h, z⟩
    obtain ⟨a, xs, rfl, ha, hxs⟩ := fx
    obtain ⟨c, ys, rfl, hc, hys⟩ := fy
    refine ⟨a, c, xs, ys, rfl, rfl, e3 _ _ (nw_some ha).2, (nw_some hc).2, sz_of (by rw [hxs.length, hys.length]; exact hl), fun p hp => q (.ref p) _ ((e2.trans e3).trans (Ex.new hp)) (.lst (nw_at (((b.trans e).trans e2).trans e3) hp) (DtAll.ex (nw_post (Ex.new hp)) (DtAll.append (DtAll.ex (nw_post e3) hxs) hys)))⟩
theorem q_asgD {i : Nat} {D : Ends} {tz : TS} (h : EvD B te σ H d) (k : ∀ v H1, Ex H H1 → Dt (nw B H1) v d → tz D (σ.set i (some v)) H1) : tSeq (tAsg te (gName i)) tz D σ H := h H (Ex.refl H) _ fun v H1 e hd => k v H1 e hd
end
theorem dt_mem {H : Hp} {v : V} : ∀ {vs : List V} {ds : List PyData}, DtAll H vs ds → v ∈ vs → ∃ d, d ∈ ds ∧ Dt H v d
  | _, _, .nil, h => nomatch h
  | _, _, .cons (d := d0) h0 hr, h => by
    rcases List.mem_cons.mp h with e | h
    · subst e
      exact ⟨d0, List.mem_cons_self, h0⟩
    · obtain ⟨d, h1, h2⟩ := dt_mem hr h
      exact ⟨d, List.mem_cons_of_mem _ h1, h2⟩

/-- what may stand in a program -/
abbrev ge (d : PyData) : Bool := gB 200 3 d
/-- what is judged -/
abbrev gp (d : PyData) : Bool := gB 9000 5 d
theorem ge_all : ∀ {ds : List PyData}, ds.all ge = true → smAll ds = true ∧ PyData.showableAll ds = true ∧ PyData.leavesShortAll 40 ds = true ∧ PyData.bulkAll ds ≤ 201 * ds.length ∧ PyData.depthAll ds ≤ 3
  | [], _ => ⟨rfl, rfl, rfl, Nat.zero_le _, Nat.zero_le _⟩
  | d :: r, h => by
    rw [List.all_cons, Bool.and_eq_true] at h
    obtain ⟨g1, g2, g3, g4, g5⟩ := gB_iff.mp h.1
    obtain ⟨s1, s2, s3, s4, s5⟩ := ge_all h.2
    refine ⟨by rw [smAll, g1, s1]; rfl, by rw [PyData.showableAll, g2, s2]; rfl, by rw [PyData.leavesShortAll, g3, s3]; rfl, ?_, ?_⟩
    · rw [PyData.bulkAll, List.length_cons]; omega
    · rw [PyData.depthAll]; exact Nat.max_le.mpr ⟨g5, s5⟩
theorem gp_list {ds : List PyData} (h : ds.all ge = true) (l : ds.length ≤ 40) : gp (.list ds) = true := by
  obtain ⟨s1, s2, s3, s4, s5⟩ := ge_all h
  refine gB_iff.mpr ⟨?_, ?_, ?_, ?_, ?_⟩
  · rw [sm, s1, decide_eq_true (show ds.length ≤ 1000 by omega)]; rfl
  · rw [PyData.showable]; exact s2
  · rw [PyData.leavesShort]; exact s3
  · rw [PyData.bulk]; omega
  · rw [PyData.depth]; omega
theorem gp_tuple {ds : List PyData} (h : ds.all ge = true) (l : ds.length ≤ 40) : gp (.tuple ds) = true := by
  obtain ⟨s1, s2, s3, s4, s5⟩ := ge_all h
  refine gB_iff.mpr ⟨?_, ?_, ?_, ?_, ?_⟩
  · rw [sm, s1, decide_eq_true (show ds.length ≤ 1000 by omega)]; rfl
  · rw [PyData.showable]; exact s2
  · rw [PyData.leavesShort]; exact s3
  · rw [PyData.bulk]; omega
  · rw [PyData.depth]; omega
theorem gp_fits {d : PyData} (h : gp d = true) : Fits d := by
  obtain ⟨g1, g2, g3, g4, g5⟩ := gB_iff.mp h
  refine ⟨g2, by omega, ?_⟩
  have := PyData.shown_le_bulk 40 (by decide) d g3
  rw [sizeLine_eq]
  omega
theorem ge_step {xs : List V} (h : StepOk xs) : ge (.tuple (xs.map flD)) = true := by
  obtain ⟨s1, s2, s3, s4, s5⟩ := gs_all (gs_leaves h.leaf)
  have l4 := h.four
  rw [List.length_map] at s4
  refine gB_iff.mpr ⟨?_, ?_, ?_, ?_, ?_⟩
  · rw [sm, s1, decide_eq_true (show (xs.map flD).length ≤ 1000 by rw [List.length_map]; omega)]; rfl
  · rw [PyData.showable]; exact s2
  · rw [PyData.leavesShort]; exact s3
  · rw [PyData.bulk]; omega
  · rw [PyData.depth]; omega

abbrev sWStep : Stmt := topS 32
theorem scWStep : FnScope ["_law_pot_here", "_law_odd"] ["_law_pot_here"] (defScope sWStep) := ⟨rfl, rfl, rfl, by decide +kernel, rfl, by decide +kernel, by decide +kernel⟩
/-- something that stands in for a step -/
def spWStep : Sp := fun vs H Q _ => ∃ p : Addr, vs = [.ref p] ∧ Pot H p ∧ ∀ v d H', Dt (nw H H') v d → ge d = true → Drew p H H' → Q v H'
def odd0 : List PyData := [.none, (.int 0), (.str ""), (.str "fail"), (.tuple []), (.list []), (.dict []), (.tuple [(.str "fail"), (.str "a")]), (.tuple [(.str "fail"), .none]), (.list [(.str "fail")]), (.tuple [(.str "need")]), (.tuple [(.str "need"), (.str "A")])]
def odd1 : List PyData := [(.tuple [(.str "need"), (.int 1)]), (.tuple [(.str "set"), (.str "a"), (.bool true)]), (.tuple [(.str "set"), (.str "a"), .none]), (.tuple [(.str "set"), (.str "e"), (.int 1)]), (.tuple [(.str "add"), (.str "a"), (.int 1)]), (.tuple [(.str "skip"), (.str "a")])]
def odd2 : List PyData := [(.tuple [(.str "skip"), (.str "a"), (.int 0)]), (.tuple [(.str "skip"), (.str "a"), (.bool true)]), (.tuple [(.str "skip"), (.str "a"), (.int (-1))]), (.tuple [(.str "try"), (.str "m")]), (.tuple [(.str "try"), (.str "m"), (.str "e")]), (.tuple [.none])]
def odd3 : List PyData := [(.tuple [(.str "read"), (.str "a"), (.str "m")]), (.tuple [(.str "halt")]), (.tuple [(.str "read"), (.str "m"), (.str "a"), (.str "x")]), (.tuple [(.str "export"), (.str "a"), (.str "x")]), (.tuple [(.str "export"), (.int 1), (.str "a")])]
def odd4 : List PyData := [(.tuple [(.tuple [(.str "fail")])]), (.tuple [(.str "read"), (.str "a"), (.str "m"), (.str "X")]), (.tuple [(.str "read"), (.str "a"), (.str ""), (.str "x")])]
theorem odd_ge : ((((odd0 ++ odd1) ++ odd2) ++ odd3) ++ odd4).all ge = true := by decide +kernel
section
variable {P : Program} {w : World} {K : PySem.W.Frag} {mg : Str → Option Value} {base : Heap}
theorem ok_wstep {f : Addr} {fd : FuncData} {k : Nat} (F : Fun K "_law_wrong_step" "_law_wrong_step" sWStep f fd) (C : Has P w K mg base k "_law_choice" ["_law_pot_here", "_law_options"] spChoice) :
    FnG P w K mg base CX0 (k + 1) f fd ["_law_pot_here"] spWStep := by
  obtain ⟨fC, fdC, GC, bC, kC, gC⟩ := C.ex
  refine okG F scWStep (fun vs H Q E h => by obtain ⟨_, rfl, _⟩ := h; rfl) (fun cdv A outer s H vs Q E hq hr h => ?_)
  obtain ⟨p, rfl, pot, q⟩ := h
  refine ⟨_, pss_cons (ps_set (i := 1) scWStep.nd rfl (.inl rfl) (pe_lst (pa_cons pe_non (pa_cons pe_int (pa_cons pe_str (pa_cons pe_str (pa_cons (pe_tup pa_nil) (pa_cons (pe_lst pa_nil) (pa_cons pe_dnewK (pa_cons (pe_tup (pa_cons pe_str (pa_cons pe_str pa_nil))) (pa_cons (pe_tup (pa_cons pe_str (pa_cons pe_non pa_nil))) (pa_cons (pe_lst (pa_cons pe_str pa_nil)) (pa_cons (pe_tup (pa_cons pe_str pa_nil)) (pa_cons (pe_tup (pa_cons pe_str (pa_cons pe_str pa_nil))) pa_nil))))))))))))))
    (pss_cons (ps_set (i := 1) scWStep.nd rfl (.inl rfl) (pe_op op_cat (pv 1) (pe_lst (pa_cons (pe_tup (pa_cons pe_str (pa_cons pe_int pa_nil))) (pa_cons (pe_tup (pa_cons pe_str (pa_cons pe_str (pa_cons pe_bl pa_nil)))) (pa_cons (pe_tup (pa_cons pe_str (pa_cons pe_str (pa_cons pe_non pa_nil)))) (pa_cons (pe_tup (pa_cons pe_str (pa_cons pe_str (pa_cons pe_int pa_nil)))) (pa_cons (pe_tup (pa_cons pe_str (pa_cons pe_str (pa_cons pe_int pa_nil)))) (pa_cons (pe_tup (pa_cons pe_str (pa_cons pe_str pa_nil))) pa_nil)))))))))
    (pss_cons (ps_set (i := 1) scWStep.nd rfl (.inl rfl) (pe_op op_cat (pv 1) (pe_lst (pa_cons (pe_tup (pa_cons pe_str (pa_cons pe_str (pa_cons pe_int pa_nil)))) (pa_cons (pe_tup (pa_cons pe_str (pa_cons pe_str (pa_cons pe_bl pa_nil)))) (pa_cons (pe_tup (pa_cons pe_str (pa_cons pe_str (pa_cons (pe_un un_neg pe_int) pa_nil)))) (pa_cons (pe_tup (pa_cons pe_str (pa_cons pe_str pa_nil))) (pa_cons (pe_tup (pa_cons pe_str (pa_cons pe_str (pa_cons pe_str pa_nil)))) (pa_cons (pe_tup (pa_cons pe_non pa_nil)) pa_nil)))))))))
    (pss_cons (ps_set (i := 1) scWStep.nd rfl (.inl rfl) (pe_op op_cat (pv 1) (pe_lst (pa_cons (pe_tup (pa_cons pe_str (pa_cons pe_str (pa_cons pe_str pa_nil)))) (pa_cons (pe_tup (pa_cons pe_str pa_nil)) (pa_cons (pe_tup (pa_cons pe_str (pa_cons pe_str (pa_cons pe_str (pa_cons pe_str pa_nil))))) (pa_cons (pe_tup (pa_cons pe_str (pa_cons pe_str (pa_cons pe_str pa_nil)))) (pa_cons (pe_tup (pa_cons pe_str (pa_cons pe_int (pa_cons pe_str pa_nil)))) pa_nil))))))))
    (pss_one (ps_ret (callG GC hq hr (by rfl) gC kC bC .nil pass0 (pa_cons (pv 0) (pa_cons (pe_op op_cat (pv 1) (pe_lst (pa_cons (pe_tup (pa_cons (pe_tup (pa_cons pe_str pa_nil)) pa_nil)) (pa_cons (pe_tup (pa_cons pe_str (pa_cons pe_str (pa_cons pe_str (pa_cons pe_str pa_nil))))) (pa_cons (pe_tup (pa_cons pe_str (pa_cons pe_str (pa_cons pe_str (pa_cons pe_str pa_nil))))) pa_nil))))) pa_nil)))))))), ?_⟩
  refine q_asgD (B := H) (d := .list odd0) (have bb := Ex.refl H; (ed_lst bb (eda_cons (ed_c rfl) (eda_cons (ed_c rfl) (eda_cons (ed_c rfl) (eda_cons (ed_c rfl) (eda_cons (ed_tup bb eda_nil (by decide)) (eda_cons (ed_lst bb eda_nil (by decide)) (eda_cons (ed_dict0 bb) (eda_cons (ed_tup bb (eda_cons (ed_c rfl) (eda_cons (ed_c rfl) eda_nil)) (by decide)) (eda_cons (ed_tup bb (eda_cons (ed_c rfl) (eda_cons (ed_c rfl) eda_nil)) (by decide)) (eda_cons (ed_lst bb (eda_cons (ed_c rfl) eda_nil) (by decide)) (eda_cons (ed_tup bb (eda_cons (ed_c rfl) eda_nil) (by decide)) (eda_cons (ed_tup bb (eda_cons (ed_c rfl) (eda_cons (ed_c rfl) eda_nil)) (by decide)) eda_nil)))))))))))) (by decide))) fun v1 H1 e1 hv1 => ?_
  refine q_asgD (B := H) (d := .list (odd0 ++ odd1)) (ed_cat e1 (ed_var rfl hv1) (have bb := e1; (ed_lst bb (eda_cons (ed_tup bb (eda_cons (ed_c rfl) (eda_cons (ed_c rfl) eda_nil)) (by decide)) (eda_cons (ed_tup bb (eda_cons (ed_c rfl) (eda_cons (ed_c rfl) (eda_cons (ed_c rfl) eda_nil))) (by decide)) (eda_cons (ed_tup bb (eda_cons (ed_c rfl) (eda_cons (ed_c rfl) (eda_cons (ed_c rfl) eda_nil))) (by decide)) (eda_cons (ed_tup bb (eda_cons (ed_c rfl) (eda_cons (ed_c rfl) (eda_cons (ed_c rfl) eda_nil))) (by decide)) (eda_cons (ed_tup bb (eda_cons (ed_c rfl) (eda_cons (ed_c rfl) (eda_cons (ed_c rfl) eda_nil))) (by decide)) (eda_cons (ed_tup bb (eda_cons (ed_c rfl) (eda_cons (ed_c rfl) eda_nil)) (by decide)) eda_nil)))))) (by decide))) (by decide)) fun v2 H2 e2 hv2 => ?_
  have b2 := e1.trans e2
  refine q_asgD (B := H) (d := .list ((odd0 ++ odd1) ++ odd2)) (ed_cat b2 (ed_var rfl hv2) (have bb := b2; (ed_lst bb (eda_cons (ed_tup bb (eda_cons (ed_c rfl) (eda_cons (ed_c rfl) (eda_cons (ed_c rfl) eda_nil))) (by decide)) (eda_cons (ed_tup bb (eda_cons (ed_c rfl) (eda_cons (ed_c rfl) (eda_cons (ed_c rfl) eda_nil))) (by decide)) (eda_cons (ed_tup bb (eda_cons (ed_c rfl) (eda_cons (ed_c rfl) (eda_cons ed_neg eda_nil))) (by decide)) (eda_cons (ed_tup bb (eda_cons (ed_c rfl) (eda_cons (ed_c rfl) eda_nil)) (by decide)) (eda_cons (ed_tup bb (eda_cons (ed_c rfl) (eda_cons (ed_c rfl) (eda_cons (ed_c rfl) eda_nil))) (by decide)) (eda_cons (ed_tup bb (eda_cons (ed_c rfl) eda_nil) (by decide)) eda_nil)))))) (by decide))) (by decide)) fun v3 H3 e3 hv3 => ?_
  have b3 := b2.trans e3
  refine q_asgD (B := H) (d := .list (((odd0 ++ odd1) ++ odd2) ++ odd3)) (ed_cat b3 (ed_var rfl hv3) (have bb := b3; (ed_lst bb (eda_cons (ed_tup bb (eda_cons (ed_c rfl) (eda_cons (ed_c rfl) (eda_cons (ed_c rfl) eda_nil))) (by decide)) (eda_cons (ed_tup bb (eda_cons (ed_c rfl) eda_nil) (by decide)) (eda_cons (ed_tup bb (eda_cons (ed_c rfl) (eda_cons (ed_c rfl) (eda_cons (ed_c rfl) (eda_cons (ed_c rfl) eda_nil)))) (by decide)) (eda_cons (ed_tup bb (eda_cons (ed_c rfl) (eda_cons (ed_c rfl) (eda_cons (ed_c rfl) eda_nil))) (by decide)) (eda_cons (ed_tup bb (eda_cons (ed_c rfl) (eda_cons (ed_c rfl) (eda_cons (ed_c rfl) eda_nil))) (by decide)) eda_nil))))) (by decide))) (by decide)) fun v4 H4 e4 hv4 => ?_
  have b4 := b3.trans e4
  refine ⟨.ref p, rfl, ?_⟩
  refine ed_cat (B := H) (ds := ((odd0 ++ odd1) ++ odd2) ++ odd3) (es := odd4) b4 (ed_var rfl hv4) (have bb := b4; (ed_lst bb (eda_cons (ed_tup bb (eda_cons (ed_tup bb (eda_cons (ed_c rfl) eda_nil) (by decide)) eda_nil) (by decide)) (eda_cons (ed_tup bb (eda_cons (ed_c rfl) (eda_cons (ed_c rfl) (eda_cons (ed_c rfl) (eda_cons (ed_c rfl) eda_nil)))) (by decide)) (eda_cons (ed_tup bb (eda_cons (ed_c rfl) (eda_cons (ed_c rfl) (eda_cons (ed_c rfl) (eda_cons (ed_c rfl) eda_nil)))) (by decide)) eda_nil))) (by decide))) (by decide) H4 (Ex.refl H4) _ fun v5 H5 e5 hv5 => ?_
  have b5 := b4.trans e5
  generalize hO : ((((odd0 ++ odd1) ++ odd2) ++ odd3) ++ odd4) = O at hv5
  have hlen : 0 < O.length ∧ O.length ≤ 1000 := by rw [← hO]; decide
  have hge : O.all ge = true := by rw [← hO]; exact odd_ge
  have fv : ∃ a xs, v5 = .ref a ∧ nw H H5 a = some (.lst xs) ∧ DtAll (nw H H5) xs O := by
    cases hv5 with
    | lst h z => exact ⟨_, _, rfl, h, z⟩
  obtain ⟨a, xs, rfl, ha, hxs⟩ := fv
  have lx := hxs.length
  refine ⟨p, pot.ex b5, .inl ⟨a, xs, rfl, pot_none pot (nw_some ha).1, (nw_some ha).2, by omega, by omega, fun v H' hv dr => ?_⟩⟩
  obtain ⟨d, hd, hdv⟩ := dt_mem hxs hv
  exact q v d H' (Dt.ex (nw_mono pot dr) hdv) (List.all_eq_true.mp hge d hd) ((Drew.of pot b5).trans dr)
end
end Cr
namespace Cr
open PySem PySem.Spec PyProof.Rows L2 Evl
/-- the heap without p and T -/
def hid (p T : Addr) (H : Hp) : Hp := fun a => if a = p ∨ a = T then none else H a
theorem hid_ne {p T a : Addr} {H : Hp} (h1 : a ≠ p) (h2 : a ≠ T) : hid p T H a = H a := if_neg (fun z => z.elim h1 h2)
theorem hid_some {p T a : Addr} {H : Hp} {o : HO} (h : hid p T H a = some o) : a ≠ p ∧ a ≠ T ∧ H a = some o := by
  by_cases z : a = p ∨ a = T
  · unfold hid at h
    rw [if_pos z] at h
    cases h
  · have n1 : a ≠ p := fun e => z (.inl e)
    have n2 : a ≠ T := fun e => z (.inr e)
    rw [hid_ne n1 n2] at h
    exact ⟨n1, n2, h⟩
theorem hid_ex (p T : Addr) (H : Hp) : Ex (hid p T H) H := fun a o h => (hid_some h).2.2
theorem hid_wo (p T : Addr) (H : Hp) : Ex (hid p T H) (wo p H) := fun a o h => by
  obtain ⟨h1, _, h3⟩ := hid_some h
  rw [wo_ne h1]
  exact h3
theorem hid_drew {p T : Addr} {H H' : Hp} (d : Drew p H H') : Ex (hid p T H) (hid p T H') := fun a o h => by
  obtain ⟨h1, h2, h3⟩ := hid_some h
  rw [hid_ne h1 h2]
  exact d.at h1 h3
theorem hid_upd {p T : Addr} {H : Hp} {o : HO} : Ex (hid p T H) (hid p T (upd H T o)) := fun a u h => by
  obtain ⟨h1, h2, h3⟩ := hid_some h
  rw [hid_ne h1 h2, upd_ne h2]
  exact h3
theorem hid_mono {p T : Addr} {H H' : Hp} (e : Ex H H') : Ex (hid p T H) (hid p T H') := fun a o h => by
  obtain ⟨h1, h2, h3⟩ := hid_some h
  rw [hid_ne h1 h2]
  exact e _ _ h3
theorem wo_drew {p : Addr} {H H' : Hp} (d : Drew p H H') : Ex (wo p H) (wo p H') := d.ex
theorem all_app {ds es : List PyData} (h1 : ds.all ge = true) (h2 : es.all ge = true) : (ds ++ es).all ge = true := by rw [List.all_append, h1, h2]; rfl
theorem all_cut {ds : List PyData} (h : ds.all ge = true) (a b : Nat) : ((ds.drop a).take b).all ge = true := List.all_eq_true.mpr fun d hd => List.all_eq_true.mp h d (List.mem_of_mem_drop (List.mem_of_mem_take hd))

abbrev sProg : Stmt := topS 31
abbrev nProg : List Str := ["_law_pot_here", "_law_modules", "_law_names_here", "_law_most", "_law_size", "_law_at"]
theorem scProg : FnScope nProg ["_law_pot_here", "_law_modules", "_law_names_here", "_law_most"] (defScope sProg) := ⟨rfl, rfl, rfl, by decide +kernel, rfl, by decide +kernel, by decide +kernel⟩
def spProg : Sp := fun vs H Q _ => ∃ (p m nm : Addr) (ms ns : List Str), vs = [.ref p, .ref m, .ref nm, .int 30] ∧ Pot H p ∧ m ≠ p ∧ nm ≠ p ∧ H m = some (.lst (ms.map V.str)) ∧ H nm = some (.lst (ns.map V.str)) ∧
  (0 < ms.length ∧ ms.length ≤ 10 ∧ 0 < ns.length ∧ ns.length ≤ 10 ∧ (∀ x ∈ ms, isNameS x = true) ∧ (∀ x ∈ ns, isNameS x = true)) ∧
  ∀ (T : Addr) (xs : List V) (ds : List PyData) (H' : Hp), H T = none → H' T = some (.lst xs) → DtAll (hid p T H') xs ds → ds.all ge = true → ds.length ≤ 30 → Drew p H H' → Q (.ref T) H'
section
variable {P : Program} {w : World} {K : PySem.W.Frag} {mg : Str → Option Value} {base : Heap}
theorem ok_prog {f : Addr} {fd : FuncData} {k : Nat} (F : Fun K "_law_program" "_law_program" sProg f fd) (B : Blt mg) (hD : Has P w K mg base k "_law_draw" ["_law_pot_here", "_law_most"] spDraw) (hC : Has P w K mg base k "_law_choice" ["_law_pot_here", "_law_options"] spChoice)
    (hS : Has P w K mg base k "_law_step" ["_law_pot_here", "_law_modules", "_law_names_here", "_law_after"] spStep) : FnG P w K mg base CX0 (k + 1) f fd ["_law_pot_here", "_law_modules", "_law_names_here", "_law_most"] spProg := by
  obtain ⟨f1, d1, G1, b1, k1, g1⟩ := hD.ex
  obtain ⟨f2, d2, G2, b2, k2, g2⟩ := hC.ex
  obtain ⟨f3, d3, G3, b3, k3, g3⟩ := hS.ex
  refine okG F scProg (fun vs H Q E h => by obtain ⟨_, _, _, _, _, rfl, _⟩ := h; rfl) (fun cdv A outer s H vs Q E hq hr h => ?_)
  obtain ⟨p, m, nm, ms, ns, rfl, pot, mp, np, hm, hn, ⟨c1, c2, c3, c4, c5, c6⟩, q⟩ := h
  refine ⟨_, pss_cons (ps_set (i := 4) scProg.nd rfl (.inr rfl) (callG G2 hq hr (by rfl) g2 k2 b2 .nil pass0 (pa_cons (pv 0) (pa_cons (pe_lst (pa_cons (pv 3) (pa_cons (callG G1 hq hr (by rfl) g1 k1 b1 .nil pass0 (pa_cons (pv 0) (pa_cons (pe_op op_add (pv 3) pe_int) pa_nil)))
      (pa_cons (callG G1 hq hr (by rfl) g1 k1 b1 .nil pass0 (pa_cons (pv 0) (pa_cons pe_int pa_nil))) pa_nil)))) pa_nil))))
    (pss_one (ps_ret (pe_lc (own := [("_law_at", 5)]) (g := gName 5) (tt := tYes) rfl scProg.nd (pi_range1 (by rfl) B.range (pa_cons (pv 4) pa_nil)) (blkOk_by (own := [("_law_at", 5)]) (N := nProg) (sc := defScope sProg) (by decide +kernel))
        (fun _ _ _ _ _ => pg_name (i := 5) scProg.nd rfl (Or.inl rfl)) (fun _ _ _ _ _ => pts_nil)
        (fun _ _ _ _ _ => callG G3 hq hr (by rfl) g3 k3 b3 .nil pass0 (pa_cons (pv 0) (pa_cons (pv 1) (pa_cons (pv 2) (pa_cons (pe_op op_sub (pe_op op_sub (pv 4) pe_int) (pv 5)) pa_nil)))))))), ?_⟩
  refine ⟨.ref p, rfl, .int 30, rfl, .ref p, rfl, .int 30, rfl, 30, 1, rfl, rfl, p, 31, rfl, by decide, by decide +kernel, pot, fun z1 H1 a1 a2 r1 => ?_⟩
  refine ⟨.ref p, rfl, p, 3, rfl, by decide, by decide +kernel, r1.pot, fun z2 H2 a3 a4 r2 => ⟨by show 3 ≤ sizeLine; decide, fun o ho => ?_⟩⟩
  have r12 := r1.trans r2
  have on : o ≠ p := r12.neq ho
  have r3 := r12.trans (Drew.of r12.pot (Ex.new (o := .lst [.int 30, .int z1, .int z2]) ho))
  refine ⟨p, r3.pot, .inl ⟨o, _, rfl, on, upd_same, by show 0 < 3; decide, by show 3 ≤ 1000; decide, fun v H4 hv r4 => ?_⟩⟩
  obtain ⟨sz, rfl, hsz⟩ : ∃ sz : Nat, v = .int (sz : Int) ∧ sz ≤ 30 := by
    simp only [List.mem_cons, List.not_mem_nil, or_false] at hv
    rcases hv with rfl | rfl | rfl
    · exact ⟨30, rfl, by decide⟩
    · exact ⟨z1.toNat, by rw [Int.toNat_of_nonneg a1], by omega⟩
    · exact ⟨z2.toNat, by rw [Int.toNat_of_nonneg a3], by omega⟩
  have r5 := r3.trans r4
  refine ⟨.int sz, rfl, sz, rfl, by omega, by omega, fun D hD => ?_⟩
  have Dn : D ≠ p := r5.neq hD
  have HD : H D = none := fresh_drew r5 pot hD
  refine lc_range (lo := 0) (n := (sz : Int).toNat) (fun i H' => ∃ xs ds, H' D = some (.lst xs) ∧ DtAll (hid p D H') xs ds ∧ ds.all ge = true ∧ ds.length = i ∧ Drew p H H')
    ⟨[], [], upd_same, .nil, rfl, rfl, r5.mut HD Dn⟩ (fun i H' hi hP => ?_) (fun H' hP => ?_)
  · obtain ⟨xs, ds, hx, hds, hge, hl, dr⟩ := hP
    have lx := hds.length
    have hai : ((sz : Int) - 1 - (0 + (i : Int))) = ((sz - 1 - i : Nat) : Int) := by omega
    refine ⟨rfl, .ref p, rfl, .ref m, rfl, .ref nm, rfl, .int sz, rfl, sz, 1, rfl, rfl, .int (0 + i), rfl, _, _, rfl, rfl, p, m, nm, ms, ns, sz - 1 - i, by rw [← hai]; rfl, dr.pot, mp, np, dr.at mp hm, dr.at np hn, ⟨c1, c2, c3, c4, c5, c6, by omega⟩, fun t ys H5 zt ht so r6 => ?_⟩
    have tp : t ≠ p := pot_none dr.pot zt
    have tD : t ≠ D := fun e => by rw [e, hx] at zt; cases zt
    refine ⟨xs, r6.at Dn hx, sz_lt (by omega), xs ++ [.ref t], ds ++ [.tuple (ys.map flD)], upd_same, ?_, all_app hge (by rw [List.all_cons, ge_step so]; rfl), by rw [List.length_append, hl]; rfl, (dr.trans r6).mut HD Dn⟩
    refine DtAll.append (DtAll.ex hid_upd (DtAll.ex (hid_drew r6) hds)) (.cons (.tup ?_ (dtAll_flat so.flat)) .nil)
    rw [hid_ne tp tD, upd_ne tD]
    exact ht
  · obtain ⟨xs, ds, hx, hds, hge, hl, dr⟩ := hP
    exact q D xs ds H' HD hx hds hge (by omega) dr

abbrev sSpo : Stmt := topS 33
abbrev nSpo : List Str := ["_law_pot_here", "_law_program_here", "_law_found", "_law_turn", "_law_at", "_law_way"]
theorem scSpo : FnScope nSpo ["_law_pot_here", "_law_program_here"] (defScope sSpo) := ⟨rfl, rfl, rfl, by decide +kernel, rfl, by decide +kernel, by decide +kernel⟩
def spSpo : Sp := fun vs H Q _ => ∃ (p T : Addr) (xs : List V) (ds : List PyData), vs = [.ref p, .ref T] ∧ Pot H p ∧ T ≠ p ∧ H T = some (.lst xs) ∧ DtAll (wo p H) xs ds ∧ ds.all ge = true ∧ ds.length ≤ 30 ∧
  ∀ (L : Addr) (ys : List V) (es : List PyData) (H' : Hp), H' L = some (.lst ys) → DtAll (wo p H') ys es → es.all ge = true → es.length ≤ 32 → Drew p H H' → Q (.ref L) H'
theorem cut_to (xs : List V) (i : Nat) : cutV xs none (some (i : Int)) = xs.take (min i xs.length) := by
  unfold cutV
  rw [HT.sIx_none, HT.sIx_nat, List.drop_zero, Nat.sub_zero]
theorem cut_from (xs : List V) (i : Nat) : cutV xs (some (i : Int)) none = xs.drop (min i xs.length) := by
  unfold cutV
  rw [HT.sIx_none, HT.sIx_nat]
  exact List.take_of_length_le (by rw [List.length_drop]; omega)
/-- found[:at] + [e] + found[lo:] -/
theorem ins_ok {te : TE} {tlo : TO} {σ : L2.St} {H : Hp} {p L : Addr} {ys : List V} {es : List PyData} {at_ lo : Nat} {Q : VK} (pot : Pot H p) (Lp : L ≠ p) (h2 : σ[2]? = some (some (.ref L))) (h4 : σ[4]? = some (some (.int (at_ : Int)))) (hL : H L = some (.lst ys))
    (hds : DtAll (wo p H) ys es) (hge : es.all ge = true) (hl : es.length ≤ 500) (hle : at_ ≤ lo) (hlo : ∀ H1, EvO tlo σ H1 (some (lo : Int)))
    (hte : ∀ (H1 : Hp) (Q : VK), Drew p H H1 → (∀ v d H2, Drew p H1 H2 → Dt (wo p H2) v d → ge d = true → Q v H2) → te σ H1 Q)
    (k : ∀ N zs fs H', N ≠ p → H' N = some (.lst zs) → DtAll (wo p H') zs fs → fs.all ge = true → fs.length ≤ es.length + 1 → Drew p H H' → Q (.ref N) H') :
    tOp rCat (tOp rCat (tSl (rSlL K) (tVar 2) tNoPart (tPart (tVar 4))) (tLst (tCons te tNil))) (tSl (rSlL K) (tVar 2) tlo tNoPart) σ H Q := by
  have ly := hds.length
  refine el_sl (K := K) (lo := none) (hi := some (at_ : Int)) (ev_var h2) eo_none (eo_some (ev_var h4)) (sq_of hL) H (Ex.refl H) _ fun pA H1 zA e1 hA => ?_
  rw [cut_to] at hA
  have d1 := Drew.of pot e1
  refine hte H1 _ d1 fun v d H2 r2 hv gv => ⟨by show 1 ≤ sizeLine; decide, fun pB zB => ?_⟩
  have d2 := d1.trans r2
  have Ap : pA ≠ p := pot_none pot zA
  have Bp : pB ≠ p := d2.neq zB
  have e3 := Ex.new (o := .lst [v]) zB
  have d3 := d2.trans (Drew.of d2.pot e3)
  refine ⟨pA, pB, _, _, rfl, rfl, e3 _ _ (r2.at Ap hA), upd_same, sz_of (by rw [List.length_take]; show _ + 1 ≤ 100000; omega), fun pC zC => ?_⟩
  have Cp : pC ≠ p := d3.neq zC
  have e4 := Ex.new (o := .lst (ys.take (min at_ ys.length) ++ [v])) zC
  have d4 := d3.trans (Drew.of d3.pot e4)
  refine el_sl (K := K) (lo := some (lo : Int)) (hi := none) (ev_var h2) (hlo _) eo_none (sq_of (d4.at Lp hL)) _ (Ex.refl _) _ fun pE H5 zE e5 hE => ?_
  rw [cut_from] at hE
  have Ep : pE ≠ p := d4.neq zE
  have d5 := d4.trans (Drew.of d4.pot e5)
  refine ⟨pC, pE, _, _, rfl, rfl, e5 _ _ upd_same, hE, sz_of (by rw [List.length_append, List.length_take, List.length_drop]; show _ + 1 + _ ≤ 100000; omega), fun pN zN => ?_⟩
  have e6 := Ex.new (o := .lst ((ys.take (min at_ ys.length) ++ [v]) ++ ys.drop (min lo ys.length))) zN
  have d6 := d5.trans (Drew.of d5.pot e6)
  have r26 : Drew p H2 _ := (((Drew.of d2.pot e3).trans (Drew.of d3.pot e4)).trans (Drew.of d4.pot e5)).trans (Drew.of d5.pot e6)
  refine k pN _ ((es.take (min at_ ys.length) ++ [d]) ++ es.drop (min lo ys.length)) _ (d5.neq zN) upd_same ?_ ?_ ?_ d6
  · refine DtAll.append (DtAll.append (DtAll.take _ (DtAll.ex (wo_drew d6) hds)) (.cons (Dt.ex (wo_drew r26) hv) .nil)) (DtAll.drop _ (DtAll.ex (wo_drew d6) hds))
  · refine all_app (all_app ?_ ?_) ?_
    · exact List.all_eq_true.mpr fun x hx => List.all_eq_true.mp hge x (List.mem_of_mem_take hx)
    · rw [List.all_cons, gv]; rfl
    · exact List.all_eq_true.mpr fun x hx => List.all_eq_true.mp hge x (List.mem_of_mem_drop hx)
  · rw [List.length_append, List.length_append, List.length_take, List.length_drop]
    show _ + 1 + _ ≤ _
    omega
end
end Cr
namespace Cr
open PySem PySem.Spec PyProof.Rows L2 Evl
section
variable {P : Program} {w : World} {K : PySem.W.Frag} {mg : Str → Option Value} {base : Heap}
theorem ge_skip {i : Int} (h : i.natAbs ≤ 10 ^ 30) : ge (.tuple [.str "skip", .str "c", .int i]) = true := by
  have h1 : ([V.str "skip", .str "c", .int i].map flD).all gs = true := gs_leaves (by
    have e : leafOk (.int i) = true := decide_eq_true h
    show (leafOk (.str "skip") && (leafOk (.str "c") && (leafOk (.int i) && true))) = true
    rw [e]
    decide +kernel)
  obtain ⟨s1, s2, s3, s4, s5⟩ := gs_all h1
  have s4' : PyData.bulkAll [.str "skip", .str "c", .int i] ≤ 41 * 3 := s4
  have s5' : PyData.depthAll [.str "skip", .str "c", .int i] ≤ 2 := s5
  refine gB_iff.mpr ⟨?_, ?_, ?_, ?_, ?_⟩
  · rw [sm]
    show (true && smAll _) = true
    exact s1
  · rw [PyData.showable]; exact s2
  · rw [PyData.leavesShort]; exact s3
  · rw [PyData.bulk]; omega
  · rw [PyData.depth]; omega
theorem ok_spo {f : Addr} {fd : FuncData} {k : Nat} (F : Fun K "_law_spoilt" "_law_spoilt" sSpo f fd) (B : Blt mg) (hD : Has P w K mg base k "_law_draw" ["_law_pot_here", "_law_most"] spDraw) (hW : Has P w K mg base k "_law_wrong_step" ["_law_pot_here"] spWStep) :
    FnG P w K mg base CX0 (k + 1) f fd ["_law_pot_here", "_law_program_here"] spSpo := by
  obtain ⟨f1, d1, G1, b1, k1, g1⟩ := hD.ex
  obtain ⟨f2, d2, G2, b2, k2, g2⟩ := hW.ex
  refine okG F scSpo (fun vs H Q E h => by obtain ⟨_, _, _, _, rfl, _⟩ := h; rfl) (fun cdv A outer s H vs Q E hq hr h => ?_)
  obtain ⟨p, T, xs, ds, rfl, pot, Tp, hT, hds, hge, hl, q⟩ := h
  refine ⟨_, pss_cons (ps_set (i := 2) scSpo.nd rfl (.inl rfl) (pe_callTy call_list_of (by rfl) B.list bList (pa_cons (pv 1) pa_nil)))
    (pss_cons (ps_for PassesOwn.never rfl (pi_range1 (by rfl) B.range (pa_cons (pe_op op_add pe_int (callG G1 hq hr (by rfl) g1 k1 b1 .nil pass0 (pa_cons (pv 0) (pa_cons pe_int pa_nil)))) pa_nil)) (pg_name (i := 3) scSpo.nd rfl (.inl rfl))
      (pss_cons (ps_set (i := 4) scSpo.nd rfl (.inl rfl) (callG G1 hq hr (by rfl) g1 k1 b1 .nil pass0 (pa_cons (pv 0) (pa_cons (pe_op op_add (pe_callB call_len_seq (by rfl) B.len bLen (pa_cons (pv 2) pa_nil)) pe_int) pa_nil))))
      (pss_cons (ps_set (i := 5) scSpo.nd rfl (.inl rfl) (callG G1 hq hr (by rfl) g1 k1 b1 .nil pass0 (pa_cons (pv 0) (pa_cons pe_int pa_nil))))
      (pss_one (ps_if (pt_cmpR op_eq (pv 5) pe_int (nomark _))
        (pss_one (ps_set (i := 2) scSpo.nd rfl (.inl rfl) (pe_op op_cat (pe_op op_cat (pe_slice sl_list (pv 2) po_none (po_some (pv 4))) (pe_lst (pa_cons (pe_tup (pa_cons pe_str (pa_cons pe_str (pa_cons pe_str pa_nil)))) pa_nil))) (pe_slice sl_list (pv 2) (po_some (pv 4)) po_none))))
        (pss_one (ps_if (pt_cmpR op_eq (pv 5) pe_int (nomark _))
          (pss_one (ps_set (i := 2) scSpo.nd rfl (.inl rfl) (pe_op op_cat (pe_op op_cat (pe_slice sl_list (pv 2) po_none (po_some (pv 4))) (pe_lst (pa_cons (pe_tup (pa_cons pe_str (pa_cons pe_str (pa_cons (pe_op op_add (pe_op op_sub (pe_callB call_len_seq (by rfl) B.len bLen (pa_cons (pv 2) pa_nil)) (pv 4)) (callG G1 hq hr (by rfl) g1 k1 b1 .nil pass0 (pa_cons (pv 0) (pa_cons pe_int pa_nil)))) pa_nil)))) pa_nil))) (pe_slice sl_list (pv 2) (po_some (pv 4)) po_none))))
          (pss_one (ps_set (i := 2) scSpo.nd rfl (.inl rfl) (pe_op op_cat (pe_op op_cat (pe_slice sl_list (pv 2) po_none (po_some (pv 4))) (pe_lst (pa_cons (callG G2 hq hr (by rfl) g2 k2 b2 .nil pass0 (pa_cons (pv 0) pa_nil)) pa_nil))) (pe_slice sl_list (pv 2) (po_some (pe_op op_add (pv 4) pe_int)) po_none)))))))))))
    (pss_one (ps_ret (pv 2)))), ?_⟩
  have lx := hds.length
  -- the copy
  refine ⟨.ref T, rfl, T, xs, rfl, .inl (sq_of hT), fun L zL => ?_⟩
  have Lp : L ≠ p := pot_none pot zL
  have r0 := Drew.of pot (Ex.new (o := .lst xs) zL)
  refine ⟨.ref p, rfl, p, 2, rfl, by decide, by decide +kernel, r0.pot, fun z H1 a1 a2 r1 => ⟨1, z, rfl, rfl, 1 + z, rfl, by omega, by omega, ?_⟩⟩
  have r01 := r0.trans r1
  refine for_range (lo := 0) (n := (1 + z).toNat) (fun i σ H' => ∃ N ys es y3 y4 y5, σ = [some (.ref p), some (.ref T), some (.ref N), y3, y4, y5] ∧ N ≠ p ∧ H' N = some (.lst ys) ∧ DtAll (wo p H') ys es ∧ es.all ge = true ∧ es.length ≤ 30 + i ∧ Drew p H H')
    ⟨L, xs, ds, none, none, none, rfl, Lp, r1.at Lp upd_same, DtAll.ex (wo_drew r01) hds, hge, hl, r01⟩ (fun i σ H' hi hP => ?_) (fun σ H' hP => ?_)
  · obtain ⟨N, ys, es, y3, y4, y5, rfl, Np, hN, hes, hge', hl', dr⟩ := hP
    have ly := hes.length
    have hi2 : i < 2 := by omega
    refine ⟨.ref p, rfl, .ref N, rfl, N, ys, rfl, .inl (sq_of hN), _, 1, rfl, rfl, p, (ys.length : Int) + 1, rfl, by omega, ?_, dr.pot, fun at_ H2 b1' b2' r2 => ?_⟩
    · have e : ((ys.length : Int) + 1).natAbs = ys.length + 1 := by omega
      rw [e]
      exact Nat.lt_of_le_of_lt (Nat.log2_le_self _) (by omega)
    obtain ⟨at', rfl⟩ := Int.eq_ofNat_of_zero_le b1'
    refine ⟨.ref p, rfl, p, 4, rfl, by decide, by decide +kernel, r2.pot, fun way H3 c1 c2 r3 => ?_⟩
    have d3 := dr.trans (r2.trans r3)
    have hN3 := (r2.trans r3).at Np hN
    have hes3 := DtAll.ex (wo_drew (r2.trans r3)) hes
    -- the end of the turn
    have fin : ∀ (N2 : Addr) (zs : List V) (fs : List PyData) (H4 : Hp), N2 ≠ p → H4 N2 = some (.lst zs) → DtAll (wo p H4) zs fs → fs.all ge = true → fs.length ≤ es.length + 1 → Drew p H3 H4 →
        ∃ N ys es y3 y4 y5, [some (.ref p), some (.ref T), some (.ref N2), some (V.int (0 + i)), some (.int (at' : Int)), some (.int way)] = [some (.ref p), some (.ref T), some (.ref N), y3, y4, y5] ∧ N ≠ p ∧ H4 N = some (.lst ys) ∧ DtAll (wo p H4) ys es ∧ es.all ge = true ∧ es.length ≤ 30 + (i + 1) ∧ Drew p H H4 :=
      fun N2 zs fs H4 n2 h4 hf gf lf r4 => ⟨N2, zs, fs, _, _, _, rfl, n2, h4, hf, gf, by omega, d3.trans r4⟩
    refine s_if (et_test (ev_op (ev_var rfl) ev_c (rv_eq rfl))) (fun hb H4 e4 => ?_) (fun hb H4 e4 => s_if (et_test (ev_op (ev_var rfl) ev_c (rv_eq rfl))) (fun hb2 H5 e5 => ?_) (fun hb2 H5 e5 => ?_))
    · have r4 := Drew.of d3.pot e4
      refine ins_ok (p := p) (L := N) (ys := ys) (es := es) (at_ := at') (lo := at') r4.pot Np rfl rfl (e4 _ _ hN3) (DtAll.ex (wo_drew r4) hes3) hge' (by omega) (Nat.le_refl _) (fun _ => eo_some (ev_var rfl)) (fun H6 Q r6 kq => ?_) (fun N2 zs fs H6 n2 h6 hf gf lf r6 => fin N2 zs fs H6 n2 h6 hf gf lf (r4.trans r6))
      refine ⟨by show 3 ≤ sizeLine; decide, fun t zt => kq (.ref t) (.tuple [.str "export", .str "x", .str "b"]) _ (Drew.of r6.pot (Ex.new zt)) (.tup (by rw [wo_ne (r6.neq zt)]; exact upd_same) (.cons (.str _) (.cons (.str _) (.cons (.str _) .nil)))) (by decide +kernel)⟩
    · have r4 := Drew.of d3.pot (e4.trans e5)
      refine ins_ok (p := p) (L := N) (ys := ys) (es := es) (at_ := at') (lo := at') r4.pot Np rfl rfl ((e4.trans e5) _ _ hN3) (DtAll.ex (wo_drew r4) hes3) hge' (by omega) (Nat.le_refl _) (fun _ => eo_some (ev_var rfl)) (fun H6 Q r6 kq => ?_) (fun N2 zs fs H6 n2 h6 hf gf lf r6 => fin N2 zs fs H6 n2 h6 hf gf lf (r4.trans r6))
      refine ⟨.ref N, rfl, N, ys, rfl, .inl (sq_of (r6.at Np ((e4.trans e5) _ _ hN3))), .int (at' : Int), rfl, _, _, rfl, rfl, .ref p, rfl, p, 2, rfl, by decide, by decide +kernel, r6.pot, fun z2 H7 g1' g2' r7 => ⟨_, z2, rfl, rfl, by show 3 ≤ sizeLine; decide, fun t zt => ?_⟩⟩
      refine kq (.ref t) (.tuple [.str "skip", .str "c", .int ((ys.length : Int) - (at' : Int) + z2)]) _ (r7.trans (Drew.of r7.pot (Ex.new zt))) (.tup (by rw [wo_ne (r7.neq zt)]; exact upd_same) (.cons (.str _) (.cons (.str _) (.cons (.int _) .nil)))) (ge_skip ?_)
      have e30 : (100 : Nat) ≤ 10 ^ 30 := by decide
      exact Nat.le_trans (show ((ys.length : Int) - (at' : Int) + z2).natAbs ≤ 100 by omega) e30
    · have r4 := Drew.of d3.pot (e4.trans e5)
      refine ins_ok (p := p) (L := N) (ys := ys) (es := es) (at_ := at') (lo := at' + 1) r4.pot Np rfl rfl ((e4.trans e5) _ _ hN3) (DtAll.ex (wo_drew r4) hes3) hge' (by omega) (Nat.le_succ _) (fun _ => eo_some (ev_op (ev_var rfl) ev_c rv_I0)) (fun H6 Q r6 kq => ?_) (fun N2 zs fs H6 n2 h6 hf gf lf r6 => fin N2 zs fs H6 n2 h6 hf gf lf (r4.trans r6))
      refine ⟨.ref p, rfl, p, rfl, r6.pot, fun v d H7 hv gv r7 => kq v d H7 r7 (Dt.ex ?_ hv) gv⟩
      intro a o ho
      obtain ⟨n1, n2⟩ := nw_some ho
      rw [wo_ne (pot_none r6.pot n1)]
      exact n2
  · obtain ⟨N, ys, es, y3, y4, y5, rfl, Np, hN, hes, hge', hl', dr⟩ := hP
    exact ⟨.ref N, rfl, q N ys es H' hN hes hge' (by omega) dr⟩
end
end Cr
namespace Cr
open PySem PySem.Spec PyProof.Rows L2 Evl
/-! ### sorted texts -/
def leS (a b : Str) : Prop := a.cps.toList ≤ b.cps.toList
theorem not_ltCps {a b : Str} (h : ltCps b.cps.toList a.cps.toList = false) : leS a b := by
  rw [ltCps_eq] at h
  exact List.not_lt.mp (of_decide_eq_false h)
theorem leS_anti {a b : Str} (h1 : leS a b) (h2 : leS b a) : a = b := by
  have e : a.cps.toList = b.cps.toList := List.le_antisymm h1 h2
  obtain ⟨x⟩ := a
  obtain ⟨y⟩ := b
  have e' : x = y := Array.toList_inj.mp e
  rw [e']
theorem leS_trans {a b c : Str} (h1 : leS a b) (h2 : leS b c) : leS a c := List.le_trans h1 h2
theorem rising_all : ∀ (l : List Str) (p : Str), risingS p l = true → (∀ x ∈ l, leS p x) ∧ l.Pairwise leS
  | [], p, _ => ⟨fun x hx => absurd hx List.not_mem_nil, List.Pairwise.nil⟩
  | y :: r, p, h => by
    have h' : (!ltCps y.cps.toList p.cps.toList && risingS y r) = true := h
    obtain ⟨h1, h2⟩ := Bool.and_eq_true_iff.mp h'
    rw [Bool.not_eq_true'] at h1
    have le := not_ltCps h1
    obtain ⟨i1, i2⟩ := rising_all r y h2
    refine ⟨fun x hx => ?_, .cons i1 i2⟩
    rcases List.mem_cons.mp hx with e | hx
    · rw [e]; exact le
    · exact leS_trans le (i1 x hx)
theorem sorted_pw {l : List Str} (h : sortedS l = true) : l.Pairwise leS := by
  cases l with
  | nil => exact .nil
  | cons x r =>
    obtain ⟨i1, i2⟩ := rising_all r x h
    exact .cons i1 i2
theorem sorted_one : ∀ {l1 l2 : List Str}, l1.Pairwise leS → l2.Pairwise leS → l1.Nodup → l2.Nodup → (∀ x, x ∈ l1 ↔ x ∈ l2) → l1 = l2
  | [], [], _, _, _, _, _ => rfl
  | [], y :: r, _, _, _, _, h => nomatch (h y).mpr List.mem_cons_self
  | x :: r, [], _, _, _, _, h => nomatch (h x).mp List.mem_cons_self
  | x :: r, y :: t, p1, p2, n1, n2, h => by
    have p1' := List.pairwise_cons.mp p1
    have p2' := List.pairwise_cons.mp p2
    have n1' := List.nodup_cons.mp n1
    have n2' := List.nodup_cons.mp n2
    have e : x = y := by
      rcases List.mem_cons.mp ((h x).mp List.mem_cons_self) with e | hx
      · exact e
      · rcases List.mem_cons.mp ((h y).mpr List.mem_cons_self) with e | hy
        · exact e.symm
        · exact leS_anti (p1'.1 y hy) (p2'.1 x hx)
    subst e
    rw [sorted_one p1'.2 p2'.2 n1'.2 n2'.2 fun z => ⟨fun hz => ?_, fun hz => ?_⟩]
    · rcases List.mem_cons.mp ((h z).mp (List.mem_cons_of_mem _ hz)) with e | hz'
      · exact absurd (e ▸ hz) n1'.1
      · exact hz'
    · rcases List.mem_cons.mp ((h z).mpr (List.mem_cons_of_mem _ hz)) with e | hz'
      · exact absurd (e ▸ hz) n2'.1
      · exact hz'
/-! ### what a comprehension with a test gives -/
theorem given_take {α : Type} (l : List α) (a0 : α) (g : α → Option Str) : ∀ n, n ≤ l.length → given n (fun i => (g (l.getD i a0)).isSome) (fun i => .str ((g (l.getD i a0)).getD "")) = ((l.take n).filterMap g).map V.str
  | 0, _ => rfl
  | n + 1, hn => by
    have ih := given_take l a0 g n (by omega)
    have hlt : n < l.length := by omega
    have et : l.take (n + 1) = l.take n ++ [l[n]] := by rw [List.take_append_getElem hlt]
    have eg : l.getD n a0 = l[n] := by simp [List.getD, hlt]
    rw [et, List.filterMap_append, List.map_append]
    cases hg : g l[n] with
    | none =>
      rw [given_no (by show (g (l.getD n a0)).isSome = false; rw [eg, hg]; rfl), ih]
      simp [hg]
    | some x =>
      rw [given_yes (by show (g (l.getD n a0)).isSome = true; rw [eg, hg]; rfl), ih, eg, hg]
      simp [hg]
theorem given_fm {α : Type} (l : List α) (a0 : α) (g : α → Option Str) : given l.length (fun i => (g (l.getD i a0)).isSome) (fun i => .str ((g (l.getD i a0)).getD "")) = (l.filterMap g).map V.str := by
  rw [given_take l a0 g l.length (Nat.le_refl _), List.take_length]
/-- each once -/
def once (l : List Str) : Nat → List Str
  | 0 => []
  | n + 1 => if decide (l.getD n "" ∈ l.take n) = true then once l n else once l n ++ [l.getD n ""]
theorem once_given (l : List Str) : ∀ n, given n (fun i => !decide (l.getD i "" ∈ l.take i)) (fun i => .str (l.getD i "")) = (once l n).map V.str
  | 0 => rfl
  | n + 1 => by
    unfold once
    by_cases h : decide (l.getD n "" ∈ l.take n) = true
    · rw [if_pos h, given_no (by rw [h]; rfl), once_given l n]
    · rw [if_neg h, given_yes (by rw [Bool.eq_false_iff.mpr h]; rfl), once_given l n, List.map_append]
      rfl
theorem once_ok (l : List Str) : ∀ n, n ≤ l.length → (once l n).Nodup ∧ (∀ x, x ∈ once l n ↔ x ∈ l.take n) ∧ (once l n).length ≤ n
  | 0, _ => ⟨.nil, fun x => by simp [once], Nat.le_refl _⟩
  | n + 1, hn => by
    obtain ⟨h1, h2, h3⟩ := once_ok l n (by omega)
    have hlt : n < l.length := by omega
    have et : l.take (n + 1) = l.take n ++ [l[n]] := by rw [List.take_append_getElem hlt]
    have eg : l.getD n "" = l[n] := by simp [List.getD, hlt]
    unfold once
    rw [eg]
    by_cases h : l[n] ∈ l.take n
    · rw [if_pos (decide_eq_true h)]
      refine ⟨h1, fun x => ?_, by omega⟩
      rw [h2, et, List.mem_append, List.mem_singleton]
      exact ⟨.inl, fun z => z.elim id (fun e => e ▸ h)⟩
    · rw [if_neg (by rw [decide_eq_false h]; decide)]
      refine ⟨?_, fun x => ?_, by rw [List.length_append]; show _ + 1 ≤ _; omega⟩
      · refine List.nodup_append.mpr ⟨h1, List.nodup_cons.mpr ⟨List.not_mem_nil, .nil⟩, fun a ha b hb e => ?_⟩
        rw [List.mem_singleton] at hb
        rw [e, hb, h2] at ha
        exact h ha
      · rw [et, List.mem_append, List.mem_append, h2]
theorem eqv_strs : ∀ l : List Str, PyData.eqvAll (l.map .str) (l.map .str) = true
  | [] => by first | rfl | simp [PyData.eqvAll]
  | x :: r => by
    rw [List.map_cons, PyData.eqvAll, eqv_strs r, PyData.eqv, beq_self_eq_true]
    rfl
theorem eqv_strL (l : List Str) : PyData.eqv (.list (l.map .str)) (.list (l.map .str)) = true := by
  rw [PyData.eqv]
  exact eqv_strs l
theorem lay_strs : ∀ {l : List Str}, (∀ x ∈ l, isNameS x = true) → PyData.canLayAll0 (l.map .str) = true ∧ PyData.depthAll (l.map .str) = 0
  | [], _ => ⟨rfl, rfl⟩
  | x :: r, h => by
    have ih := lay_strs fun y hy => h y (List.mem_cons_of_mem _ hy)
    have hx := h x List.mem_cons_self
    refine ⟨?_, ?_⟩
    · rw [List.map_cons, PyData.canLayAll0, ih.1, Bool.and_true, PyData.canLay0]
      unfold isNameS at hx
      have hl := (Bool.and_eq_true_iff.mp hx).2
      show x.cps.all _ = true
      rw [← Array.all_toList]
      refine List.all_eq_true.mpr fun c hc => ?_
      have hcl := List.all_eq_true.mp hl c hc
      unfold isLow at hcl
      have := of_decide_eq_true (Bool.and_eq_true_iff.mp hcl).2
      exact decide_eq_true (by omega)
    · rw [List.map_cons, PyData.depthAll, ih.2]
      rfl
theorem shaped_strs {l : List Str} (h : ∀ x ∈ l, isNameS x = true) : SeqAt.shaped (.list (l.map .str)) = true := by
  unfold SeqAt.shaped
  have z := lay_strs h
  rw [PyData.canLay0, PyData.depth, z.1, z.2]
  decide
theorem dp_strs {K : PySem.W.Frag} {H : Hp} : ∀ l : List Str, DpAll K H (l.map V.str) (l.map PyData.str)
  | [] => .nil
  | x :: r => .cons (.str x) (dp_strs r)
end Cr
namespace Cr
open PySem PySem.Spec PyProof.Rows L2 Evl
abbrev sJudged : Stmt := topS 41
abbrev nJudged : List Str := ["_law_value", "_law_kept", "_law_due_here", "_law_spots", "_law_named", "_law_turn", "_law_told_here", "_law_way", "_law_step_here", "_law_one", "_law_at"]
theorem scJudged : FnScope nJudged ["_law_value"] (defScope sJudged) := ⟨rfl, rfl, rfl, by decide +kernel, rfl, by decide +kernel, by decide +kernel⟩
theorem bSorted : bootBuiltins "sorted" = some (.builtin "sorted") := by decide +kernel
def spJ : Sp := fun vs H Q _ => ∃ v d, vs = [v] ∧ Dt H v d ∧ gp d = true ∧ ∀ H', Ex H H' → Q (.bl true) H'
theorem spv_J {H : Hp} {v : V} {d : PyData} (h : Dt H v d) (s : gp d = true) : SpV spJ [v] H (.bl true) := fun H1 e Q q E => ⟨v, d, rfl, Dt.ex e h, s, q⟩
def dueD : Option Int → PyData
  | some i => .int i
  | none => .none
theorem dt_due {H : Hp} (o : Option Int) : Dt H (dueV o) (dueD o) := by
  cases o with
  | none => exact .non
  | some i => exact .int i
def spots3 : List (Key × V) := [(.inr "need", .int 1), (.inr "try", .int 1), (.inr "read", .int 2)]
theorem spot_val (z : Str) : valV spots3 (.inr z) = (spotOf z).map fun i => V.int (i : Int) := by
  have kk : ∀ {x : Str}, z ≠ x → ((Sum.inr x : Key) = Sum.inr z) = False := fun h => propext ⟨fun e => h (Sum.inr.inj e).symm, False.elim⟩
  unfold spotOf
  by_cases h1 : z = "need"
  · subst h1; decide +kernel
  rw [if_neg h1]
  by_cases h2 : z = "try"
  · subst h2; decide +kernel
  rw [if_neg h2]
  by_cases h3 : z = "read"
  · subst h3; decide +kernel
  rw [if_neg h3]
  simp [spots3, valV, h1, h2, h3, kk h1, kk h2, kk h3]
theorem due_small {main : Bool} {d : PyData} {i : Int} (h : dueOf none main d = some i) : -1 ≤ i ∧ i ≤ 30 := by
  have hm : some (-1 : Int) = some i → -1 ≤ i ∧ i ≤ 30 := fun e => by
    have := Option.some.inj e
    omega
  cases d with
  | list ds =>
    have h' : (if ds.length > 30 then some (-1) else (firstBad none main ds).map fun i => (i : Int)) = some i := h
    by_cases hl : ds.length > 30
    · rw [if_pos hl] at h'
      exact hm h'
    · rw [if_neg hl] at h'
      cases hf : firstBad none main ds with
      | none => rw [hf] at h'; cases h'
      | some j =>
        rw [hf] at h'
        have hj : j < ds.length := List.mem_range.mp (List.mem_of_find?_eq_some hf)
        have e : ((j : Nat) : Int) = i := Option.some.inj h'
        omega
  | _ => exact hm h
theorem due_gs {main : Bool} {d : PyData} : gs (dueD (dueOf none main d)) = true := by
  cases h : dueOf none main d with
  | none => exact gs_leaf (v := .non) rfl
  | some i =>
    have hs := due_small h
    have e30 : (100 : Nat) ≤ 10 ^ 30 := by decide
    exact gs_leaf (v := .int i) (decide_eq_true (Nat.le_trans (show i.natAbs ≤ 100 by omega) e30))
theorem due_fits (d : PyData) : Fits (.list [dueD (dueOf none false d), dueD (dueOf none true d), dueD (dueOf none false d), dueD (dueOf none false d)]) := by
  refine gd_fits (gd_list ?_ (by show 4 ≤ 6; decide))
  rw [List.all_cons, List.all_cons, List.all_cons, List.all_cons, due_gs, due_gs]
  rfl
theorem ev_reprL {te : TE} {σ : L2.St} {H : Hp} {xs : List V} {ds : List PyData} (h : EvL te σ H xs) (hd : DtAll H xs ds) (f : Fits (.list ds)) : Ev (tCB rRepr (tCons te tNil)) σ H (.str (PyData.list ds).shown) := fun H1 e Q q =>
  h H1 e _ fun p H2 hp e2 hx => ⟨.ref p, .list ds, rfl, .lst hx (DtAll.ex (e.trans e2) hd), f, q H2 e2⟩
theorem ev_din {ty td : TE} {σ : L2.St} {H : Hp} {a : Addr} {z : Str} {kvs : List (Key × V)} (hy : Ev ty σ H (.str z)) (hd : Ev td σ H (.ref a)) (h : H a = some (.dK kvs)) : Ev (tDIn ty td) σ H (.bl (valV kvs (.inr z)).isSome) := fun H1 e Q q =>
  hy H1 e _ fun H2 e2 => hd H2 (e.trans e2) _ fun H3 e3 => ⟨a, _, rfl, DGet.k (k := .inr z) (((e.trans e2).trans e3) _ _ h), q H3 (e2.trans e3)⟩
/-- a program without a fault -/
theorem due_none {main : Bool} {d : PyData} (h : dueOf none main d = none) : ∃ ds, d = .list ds ∧ ds.length ≤ 30 ∧ ∀ (i : Nat) (x : PyData), ds[i]? = some x → isStep x = true := by
  cases d with
  | list ds =>
    have h' : (if ds.length > 30 then some (-1) else (firstBad none main ds).map fun i => (i : Int)) = none := h
    by_cases hl : ds.length > 30
    · rw [if_pos hl] at h'; cases h'
    · rw [if_neg hl] at h'
      refine ⟨ds, rfl, by omega, fun i x hx => ?_⟩
      have hf : firstBad none main ds = none := by
        cases hf : firstBad none main ds with
        | none => rfl
        | some j => rw [hf] at h'; cases h'
      unfold firstBad at hf
      have hi : i < ds.length := (List.getElem?_eq_some_iff.mp hx).1
      have hw := List.find?_eq_none.mp hf i (List.mem_range.mpr hi)
      have eg : ds.getD i .none = x := by rw [List.getD_eq_getElem?_getD, hx]; rfl
      unfold wrongAt at hw
      rw [fits_none] at hw
      unfold isBefore at hw
      rw [eg] at hw
      cases hst : isStep x with
      | true => rfl
      | false => rw [hst] at hw; exact absurd rfl hw
  | _ => exact nomatch h
theorem ne_sorted {K : PySem.W.Frag} {te : TE} {σ : L2.St} {H : Hp} {M : Addr} {j : Nat} {xs ys : List Str} (h : EvL te σ H (xs.map V.str)) (hj : σ[j]? = some (some (.ref M))) (hM : H M = some (.lst (ys.map V.str))) (nm : ∀ x ∈ ys, isNameS x = true)
    (so : sortedS ys = true) (nd : ys.Nodup) (nx : xs.Nodup) (hl : xs.length < 64) (mem : ∀ x, x ∈ ys ↔ x ∈ xs) : Ev (tOp (rNeD K) (tVar j) (tCB (rSortedS K) (tCons te tNil))) σ H (.bl false) := fun H1 e1 Q q =>
  ⟨.ref M, hj, h H1 e1 _ fun p H2 hp e2 hx => ⟨p, xs, rfl, sq_of hx, hl, fun zs p2 pm so2 hp2 => by
    have ez : ys = zs := sorted_one (sorted_pw so) (sorted_pw so2) nd (pm.nodup_iff.mpr nx) fun x => by rw [mem, pm.mem_iff]
    subst ez
    refine ⟨.list (ys.map .str), .list (ys.map .str), .lst (sq_of (Ex.new hp2 _ _ ((e1.trans e2) _ _ hM))) (dp_strs ys), .lst (sq_of upd_same) (dp_strs ys), shaped_strs nm, shaped_strs nm, ?_⟩
    rw [eqv_strL]
    exact q _ (e2.trans (Ex.new hp2))⟩⟩
section
variable {P : Program} {w : World} {K : PySem.W.Frag} {mg : Str → Option Value} {base : Heap}
theorem ok_judged {f C : Addr} {fd : FuncData} {k : Nat} (F : Fun K "_law_judged" "_law_judged" sJudged f fd) (B : Blt mg) (h1 : Has P w K mg base k "_law_due" ["_law_value", "_law_is_first"] spDue) (h2 : Has P w K mg base k "_law_told" ["_law_way", "_law_value"] spTold)
    (h3 : HasX P w K mg base k "modules_in" ["program"] (spMods C)) (h4 : HasC P w K mg base k C) : FnG P w K mg base CX0 (k + 1) f fd ["_law_value"] spJ := by
  obtain ⟨f1, d1, G1, b1, k1, g1⟩ := h1.ex
  obtain ⟨f2, d2, G2, b2, k2, g2⟩ := h2.ex
  obtain ⟨f3, d3, G3, b3, k3, g3⟩ := h3.ex
  obtain ⟨f4, d4, G4, ⟨ds4, vd4, b4⟩, _, k4, g4⟩ := h4.ex
  replace G4 := FnG.ofOk G4
  refine okG F scJudged (fun vs H Q E h => by obtain ⟨_, _, rfl, _⟩ := h; rfl) (fun cdv A outer s H vs Q E hq hr h => ?_)
  obtain ⟨v, d, rfl, hd, hg, q⟩ := h
  have hu := hu_of hr
  refine ⟨_, pss_cons (ps_set (i := 1) scJudged.nd rfl (.inl rfl) (pe_callB (call_reprG hq hr.units) (by rfl) B.repr bRepr (pa_cons (pv 0) pa_nil)))
    (pss_cons (ps_set (i := 2) scJudged.nd rfl (.inl rfl) (pe_lst (pa_cons (callG G1 hq hr (by rfl) g1 k1 b1 .nil pass0 (pa_cons (pv 0) (pa_cons pe_bl pa_nil))) (pa_cons (callG G1 hq hr (by rfl) g1 k1 b1 .nil pass0 (pa_cons (pv 0) (pa_cons pe_bl pa_nil)))
      (pa_cons (callG G1 hq hr (by rfl) g1 k1 b1 .nil pass0 (pa_cons (pv 0) (pa_cons pe_bl pa_nil))) (pa_cons (callG G1 hq hr (by rfl) g1 k1 b1 .nil pass0 (pa_cons (pv 0) (pa_cons pe_bl pa_nil))) pa_nil))))))
    (pss_cons (ps_if (PW.pt (pw_or (pt_cmpR op_ne (pe_callB (call_reprG hq hr.units) (by rfl) B.repr bRepr (pa_cons (pe_lc (own := [("_law_way", 7)]) (g := gName 7) (tt := tYes) rfl scJudged.nd (pi_range1 (by rfl) B.range (pa_cons pe_int pa_nil)) (blkOk_by (own := [("_law_way", 7)]) (N := nJudged) (sc := defScope sJudged) (by decide +kernel))
          (fun _ _ _ _ _ => pg_name (i := 7) scJudged.nd rfl (Or.inl rfl)) (fun _ _ _ _ _ => pts_nil) (fun _ _ _ _ _ => callG G2 hq hr (by rfl) g2 k2 b2 .nil pass0 (pa_cons (pv 7) (pa_cons (pv 0) pa_nil)))) pa_nil))
          (pe_callB (call_reprG hq hr.units) (by rfl) B.repr bRepr (pa_cons (pv 2) pa_nil)) (nomark _))
        (pw_or1 (pt_cmpR op_ne (pe_callB (call_reprG hq hr.units) (by rfl) B.repr bRepr (pa_cons (pv 0) pa_nil)) (pv 1) (nomark _))))) (pss_one (ps_ret pe_bl)) pss_nil)
    (pss_cons (ps_if (pt_cmpR op_notN (pe_ix ix_list (pv 2) pe_int (fun _ _ => rfl)) pe_non (nomark _)) (pss_one (ps_ret pe_bl)) pss_nil)
    (pss_cons (ps_set (i := 3) scJudged.nd rfl (.inr rfl) (pe_disp (pps_cons pe_str pe_int (pps_cons pe_str pe_int (pps_cons pe_str pe_int pps_nil))) (by rfl) (by rfl) (fun z => by cases z) (by decide)))
    (pss_cons (ps_set (i := 4) scJudged.nd rfl (.inr rfl) (pe_lc (own := [("_law_step_here", 8)]) (g := gName 8) (tt := tTest (tDIn (tOp (rIxT K) (tVar 8) (tC (.int 0))) (tVar 3))) (te := tOp (rIxT K) (tVar 8) (tDGet (tVar 3) (tOp (rIxT K) (tVar 8) (tC (.int 0))))) rfl scJudged.nd (pi_list (pv 0))
        (blkOk_by (own := [("_law_step_here", 8)]) (N := nJudged) (sc := defScope sJudged) (by decide +kernel)) (fun _ _ _ _ _ => pg_name (i := 8) scJudged.nd rfl (Or.inl rfl))
        (fun _ _ _ _ _ => by exact pts_one (pt_cmp (pc_din hu (pe_ix ix_tup (pv 8) pe_int (fun _ _ => rfl)) (pv 3)))) (fun _ _ _ _ _ => by exact pe_ix ix_tup (pv 8) (pe_dget hu (pv 3) (pe_ix ix_tup (pv 8) pe_int (fun _ _ => rfl)) (fun _ _ => rfl)) (fun _ _ => rfl))))
    (pss_cons (ps_for PassesOwn.never rfl (pi_range1 (by rfl) B.range (pa_cons pe_int pa_nil)) (pg_name (i := 5) scJudged.nd rfl (.inl rfl))
      (pss_cons (ps_set (i := 6) scJudged.nd rfl (.inl rfl) (callG G3 hq hr (by rfl) g3 k3 b3 .nil passL (pa_cons (pv 0) pa_nil)))
      (pss_cons (ps_if (pt_cmpR (op_neD hr.units) (pv 6) (pe_callB cr_sortedS (by rfl) B.sorted bSorted (pa_cons
          (pe_lc (own := [("_law_at", 10), ("_law_one", 9)]) (g := gTup K 2 (gCons (gName 10) (gCons (gName 9) gNil))) (tt := tTest (tOp (rIn K true) (tVar 9) (tSl (rSlL K) (tVar 4) tNoPart (tPart (tVar 10))))) rfl scJudged.nd (pi_enum (by rfl) B.enum (pa_cons (pv 4) pa_nil))
            (blkOk_by (own := [("_law_at", 10), ("_law_one", 9)]) (N := nJudged) (sc := defScope sJudged) (by decide +kernel))
            (fun _ _ _ _ _ => by exact pg_tup rfl (pgs_cons (pg_name (i := 10) scJudged.nd rfl (Or.inl rfl)) (pgs_cons (pg_name (i := 9) scJudged.nd rfl (Or.inl rfl)) pgs_nil)))
            (fun _ _ _ _ _ => by exact pts_one (pt_cmpR op_notIn_seq (pv 9) (pe_slice sl_list (pv 4) po_none (po_some (pv 10))) (by rfl))) (fun _ _ _ _ _ => pv 9)) pa_nil)) (nomark _)) (pss_one (ps_ret pe_bl)) pss_nil)
      (pss_one (ps_expr (pe_bm PySem.F.plainAttrs_list PySem.F.slot_list_append PySem.F.type_list_append mt_append (pv 6) (pa_cons pe_str pa_nil)))))))
    (pss_one (ps_ret (pe_and (pe_cmpR op_isN (callG G4 hq hr (by rfl) g4 k4 b4 vd4 passL (pa_cons (pv 0) pa_nil)) pe_non (nomark _)) (pe_one (pe_cmpR op_eq (pe_callB (call_reprG hq hr.units) (by rfl) B.repr bRepr (pa_cons (pv 0) pa_nil)) (pv 1) (nomark _)))))))))))), ?_⟩
  have hs := (gB_iff.mp hg).1
  have ft := gp_fits hg
  refine q_asg (ev_cb (ea_cons (ev_var rfl) ea_nil) (rc_repr hd ft)) fun H1 e1 => ?_
  have cd : ∀ {main : Bool} {σ : L2.St} {H' : Hp}, σ[0]? = some (some v) → Ex H H' → Ev (tCall spDue [] E0 (tCons (tVar 0) (tCons (tC (.bl main)) tNil))) σ H' (dueV (dueOf none main d)) := fun h e => ev_call (ea_cons (ev_var h) (ea_cons ev_c ea_nil)) (spv_due (Dt.ex e hd) hs)
  refine q_asgL (xs := [dueV (dueOf none false d), dueV (dueOf none true d), dueV (dueOf none false d), dueV (dueOf none false d)]) (el_lst (ea_cons (cd rfl e1) (ea_cons (cd rfl e1) (ea_cons (cd rfl e1) (ea_cons (cd rfl e1) ea_nil)))) (by show 4 ≤ 100000; decide)) fun T H2 zT e2 hT => ?_
  have e12 := e1.trans e2
  have dts : ∀ {H' : Hp}, DtAll H' [dueV (dueOf none false d), dueV (dueOf none true d), dueV (dueOf none false d), dueV (dueOf none false d)] [dueD (dueOf none false d), dueD (dueOf none true d), dueD (dueOf none false d), dueD (dueOf none false d)] := .cons (dt_due _) (.cons (dt_due _) (.cons (dt_due _) (.cons (dt_due _) .nil)))
  have lc := el_lcW (wi := iRng1 (tCons (tC (.int 4)) tNil)) (g := gName 7) (tt := tYes) (te := tCall spTold [] E0 (tCons (tVar 7) (tCons (tVar 0) tNil))) (vs := [7])
    (σ := [some v, some (.str d.shown), some (.ref T), none, none, none, none, none, none, none, none]) (H := H2) (n := 4) (Y := YFn fun i => .int (0 + i)) (fun _ => true) (fun i => dueV (dueOf none (decide (i = 1)) d)) (by decide)
    (fun H3 e3 R r => ⟨4, rfl, by decide, by decide, r H3 _ _ (walk_range (lo := 0) (n := 4)) (fun _ _ _ z => z) (Ex.refl H3) trivial⟩)
    (fun i y H3 H4 e3 hi hy => by
      obtain ⟨rfl, rfl⟩ := hy
      refine ⟨Ex.refl _, [some v, some (.str d.shown), some (.ref T), none, none, none, none, some (.int (0 + i)), none, none, none], rfl, fun R r => r, fun H4 _ Q q => q H4 (Ex.refl H4), fun _ => ?_⟩
      refine ev_call (ea_cons (ev_var rfl) (ea_cons (ev_var rfl) ea_nil)) fun H5 e5 Q q E => ⟨i, v, d, by rw [Int.zero_add]; rfl, hi, Dt.ex ((e12.trans e3).trans e5) hd, hs, q⟩)
  have eg : given 4 (fun _ => true) (fun i => dueV (dueOf none (decide (i = 1)) d)) = [dueV (dueOf none false d), dueV (dueOf none true d), dueV (dueOf none false d), dueV (dueOf none false d)] := rfl
  rw [eg] at lc
  refine q_when (b := false) (et_is (et_or (b := false) (et_test (ev_op (ev_reprL lc dts (due_fits d)) (ev_cb (ea_cons (ev_var rfl) ea_nil) (rc_repr (.lst hT dts) (due_fits d))) (rv_ne rfl))) fun _ => et_is (et_test (ev_op (ev_cb (ea_cons (ev_var rfl) ea_nil) (rc_repr (Dt.ex e12 hd) ft)) (ev_var rfl) (rv_ne rfl))) (by rw [decide_eq_true rfl]; rfl)) (by rw [decide_eq_true rfl]; rfl)) (fun z => absurd z (by decide)) (fun _ H3 e3 => ?_)
  have e13 := e12.trans e3
  refine q_when (b := !decide (dueV (dueOf none false d) = .non)) (et_test (ev_op (ev_op (ev_var rfl) ev_c (rv_ixL (sq_of (e3 _ _ hT)) (atI_nat (j := 0) rfl))) ev_c (rv_val fun H' _ Q q => ⟨rfl, q⟩))) (fun _ H4 e4 => s_ret ev_c fun H5 e5 => q H5 ((e13.trans e4).trans e5)) (fun hb H4 e4 => ?_)
  have hn : dueOf none false d = none := by
    cases h : dueOf none false d with
    | none => rfl
    | some i => rw [h] at hb; exact nomatch hb
  have e14 := e13.trans e4
  obtain ⟨ds, rfl, h30, hst⟩ := due_none hn
  obtain ⟨a, xs, ds', rfl, e', hx, hds⟩ := list_form hd rfl
  cases e'
  have lx := hds.length
  -- the spots
  refine fun fp nfp => ⟨upd_same, spots3, rfl, by decide, ?_⟩
  have em : mergeK [] spots3 = spots3 := by decide +kernel
  rw [upd_upd, em]
  have e5 : Ex H4 (upd H4 fp (.dK spots3)) := Ex.new nfp
  have hfp : (upd H4 fp (.dK spots3)) fp = some (.dK spots3) := upd_same
  generalize upd H4 fp (.dK spots3) = H5 at e5 hfp
  have e15 := e14.trans e5
  -- the names
  have lc2 := el_lcW (wi := iList K (tVar 0)) (g := gName 8) (tt := tTest (tDIn (tOp (rIxT K) (tVar 8) (tC (.int 0))) (tVar 3))) (te := tOp (rIxT K) (tVar 8) (tDGet (tVar 3) (tOp (rIxT K) (tVar 8) (tC (.int 0))))) (vs := [8])
    (σ := [some (.ref a), some (.str (PyData.list ds).shown), some (.ref T), some (.ref fp), none, none, none, none, none, none, none]) (H := H5) (n := ds.length) (Y := YAt xs) (fun i => (modO (ds.getD i .none)).isSome) (fun i => .str ((modO (ds.getD i .none)).getD "")) (by omega)
    (fun H6 e6 R r => ⟨.ref a, rfl, a, rfl, ⟨_, sq_of ((e15.trans e6) _ _ hx)⟩, r H6 _ _ (by rw [← lx]; exact walk_list (K := K) (a := a) (xs := xs)) (fun _ _ e z => ex_l e z) (Ex.refl H6) (sq_of ((e15.trans e6) _ _ hx))⟩)
    (fun i y H6 H7 e6 hi hy => by
      obtain ⟨rfl, hy⟩ := hy
      obtain ⟨dy, hdy, hDy⟩ := DtAll.get hds hy
      have gd0 : ds.getD i .none = dy := by rw [List.getD_eq_getElem?_getD, hdy]; rfl
      have st := hst i dy hdy
      obtain ⟨z, zs, rfl⟩ := step_form st
      have hay : ∃ b, y = .ref b := by cases hDy; exact ⟨_, rfl⟩
      obtain ⟨b, rfl⟩ := hay
      obtain ⟨ys, hys, hzs⟩ := dt_tup (Dt.ex (e15.trans e6) hDy)
      refine ⟨Ex.refl _, [some (.ref a), some (.str (PyData.list ds).shown), some (.ref T), some (.ref fp), none, none, none, none, some (.ref b), none, none], rfl, fun R r => r, ?_, fun hf => ?_⟩
      · cases hzs with
        | cons h0 hr0 =>
          cases h0
          refine et_is (et_test (ev_din (z := z) (ev_op (ev_var rfl) ev_c (rv_ixT (st_of hys) (atI_nat (j := 0) rfl))) (ev_var rfl) (e6 _ _ hfp))) ?_
          rw [gd0, spot_val]
          cases hsp : spotOf z with
          | none => rw [modO_none hsp]; rfl
          | some j =>
            obtain ⟨m, hm, _⟩ := spot_name st hsp
            rw [modO_some hsp hm]; rfl
      · have hf' : (modO (ds.getD i .none)).isSome = true := hf
        rw [gd0] at hf' ⊢
        cases hsp : spotOf z with
        | none => rw [modO_none hsp] at hf'; cases hf'
        | some j =>
          obtain ⟨m, hm, _⟩ := spot_name st hsp
          rw [modO_some hsp hm]
          have hz0 : ∃ yr, ys = .str z :: yr := by
            cases hzs with
            | cons h0 hr0 => cases h0; exact ⟨_, rfl⟩
          obtain ⟨yr, rfl⟩ := hz0
          have hj : ∃ u, (V.str z :: yr)[j]? = some u := by
            have hlt : j < (PyData.str z :: zs).length := (List.getElem?_eq_some_iff.mp hm).1
            rw [← hzs.length] at hlt
            exact ⟨_, List.getElem?_eq_getElem hlt⟩
          obtain ⟨u, hu'⟩ := hj
          obtain ⟨du, hdu, hDu⟩ := DtAll.get hzs hu'
          rw [hm] at hdu
          cases hdu
          cases hDu
          refine ev_op (ev_var rfl) (ev_dget (z := z) (ev_var rfl) (ev_op (ev_var rfl) ev_c (rv_ixT (st_of hys) (atI_nat (j := 0) rfl))) (e6 _ _ hfp) (by rw [spot_val, hsp]; rfl)) (rv_ixT (st_of hys) (atI_nat (j := j) hu')))
  rw [given_fm] at lc2
  refine q_asgL lc2 fun W H6 zW e6 hW => ?_
  have e16 := e15.trans e6
  have nmL : ∀ x ∈ ds.filterMap modO, isNameS x = true := fun x hx' => by
    obtain ⟨dx, h1, h2⟩ := List.mem_filterMap.mp hx'
    obtain ⟨i, hi⟩ := List.getElem?_of_mem h1
    exact modO_name (hst i dx hi) h2
  have lL : (ds.filterMap modO).length ≤ 30 := Nat.le_trans (List.length_filterMap_le _ _) h30
  have memL : ∀ x, x ∈ modsOf (.list ds) ↔ x ∈ ds.filterMap modO := fun x => Iff.rfl
  generalize ds.filterMap modO = L at hW nmL lL memL
  refine ⟨2, rfl, by decide, by decide, for_range (lo := 0) (n := 2) (fun i σ H' => ∃ y5 y6, σ = [some (.ref a), some (.str (PyData.list ds).shown), some (.ref T), some (.ref fp), some (.ref W), y5, y6, none, none, none, none] ∧ Ex H6 H') ⟨none, none, rfl, Ex.refl _⟩ (fun i σ H7 hi hP => ?_) (fun σ H7 hP => ?_)⟩
  · obtain ⟨y5, y6, rfl, e7⟩ := hP
    refine ⟨.ref a, rfl, .ref a, .list ds, rfl, Dt.ex (e16.trans e7) hd, hs, fun _ M ys H8 zM e8 hM nd so mem => ?_, fun j hj => by rw [hn] at hj; cases hj⟩
    have e78 := e7.trans e8
    have hW8 := e78 _ _ hW
    have nmY : ∀ x ∈ ys, isNameS x = true := fun x hx' => nmL x ((memL x).mp ((mem x).mp hx'))
    have lc3 := el_lcW (wi := iEnum K (tCons (tVar 4) tNil)) (g := gTup K 2 (gCons (gName 10) (gCons (gName 9) gNil))) (tt := tTest (tOp (rIn K true) (tVar 9) (tSl (rSlL K) (tVar 4) tNoPart (tPart (tVar 10))))) (te := tVar 9) (vs := [10, 9])
      (σ := [some (.ref a), some (.str (PyData.list ds).shown), some (.ref T), some (.ref fp), some (.ref W), some (.int (0 + i)), some (.ref M), none, none, none, none]) (H := H8) (n := L.length) (Y := YPair (fun i => some (.int (i : Nat))) fun i => (L.map V.str)[i]?) (fun i => !decide (L.getD i "" ∈ L.take i)) (fun i => .str (L.getD i "")) (by omega)
      (fun H9 e9 R r => ⟨.ref W, rfl, W, L.map V.str, rfl, sq_of (e9 _ _ hW8), r H9 _ _ (by
          have wk := walk_enum (K := K) (a := W) (xs := L.map V.str)
          rw [List.length_map] at wk
          exact wk) (fun _ _ e z => ex_l e z) (Ex.refl H9) (sq_of (e9 _ _ hW8))⟩)
      (fun j y H9 H10 e9 hj hy => by
        obtain ⟨T', x0, y0, rfl, zT', rfl, hx0, hy0⟩ := hy
        have hx0' : V.int (j : Nat) = x0 := Option.some.inj hx0
        subst hx0'
        have ey : y0 = .str (L.getD j "") := by
          have hy2 : (L.map V.str)[j]? = some y0 := hy0
          rw [List.getElem?_map, List.getElem?_eq_getElem hj] at hy2
          rw [← Option.some.inj hy2]
          simp [List.getD, hj]
        subst ey
        have eT := Ex.new (o := .tup [.int (j : Nat), .str (L.getD j "")]) zT'
        refine ⟨eT, [some (.ref a), some (.str (PyData.list ds).shown), some (.ref T), some (.ref fp), some (.ref W), some (.int (0 + i)), some (.ref M), none, none, some (.str (L.getD j "")), some (.int (j : Nat))], rfl, fun R r => pair_go upd_same r, ?_, fun _ => ev_var rfl⟩
        have sl := el_sl (K := K) (lo := none) (hi := some (j : Int)) (te := tVar 4) (tl := tNoPart) (th := tPart (tVar 10)) (σ := [some (.ref a), some (.str (PyData.list ds).shown), some (.ref T), some (.ref fp), some (.ref W), some (.int (0 + i)), some (.ref M), none, none, some (.str (L.getD j "")), some (.int (j : Nat))]) (ev_var rfl) eo_none (eo_some (ev_var rfl)) (sq_of (eT _ _ (e9 _ _ hW8)))
        rw [cut_to] at sl
        have ec : (L.map V.str).take (min j (L.map V.str).length) = (L.take j).map V.str := by
          rw [List.length_map, Nat.min_eq_left (by omega), List.map_take]
        rw [ec] at sl
        refine et_is (et_test (ev_opL (ev_var rfl) sl fun p H11 hp e11 => rv_niL (sq_of hp) rfl (flat_strs _))) ?_
        congr 1
        by_cases hm : L.getD j "" ∈ L.take j
        · rw [decide_eq_true hm, inV_mem.mpr hm]
        · rw [decide_eq_false hm]
          exact Bool.eq_false_iff.mpr fun z => hm (inV_mem.mp z))
    rw [once_given] at lc3
    obtain ⟨o1, o2, o3⟩ := once_ok L L.length (Nat.le_refl _)
    rw [List.take_length] at o2
    have ne := ne_sorted (K := K) (j := 6) (ys := ys) lc3 rfl hM nmY so nd o1 (by omega) fun x => by rw [mem, memL, ← o2]
    refine q_when (b := false) (et_test ne) (fun z => absurd z (by decide)) (fun _ H9 e9 => ?_)
    refine s_app (l := M) (xs := ys.map V.str) (e9 _ _ hM) (ev_var rfl) ev_c (by rw [List.length_map]; have := (List.perm_ext_iff_of_nodup nd o1).mpr (fun x => by rw [mem, memL, ← o2]); have := this.length_eq; omega) fun H10 e10 => ?_
    exact ⟨_, _, rfl, Ex.mut ((e78.trans e9).trans e10) (fresh_back e7 zM)⟩
  · obtain ⟨y5, y6, rfl, e7⟩ := hP
    have e17 := e16.trans e7
    have spc : SpV (spCheck C) ([.ref a] ++ [.bl false]) H7 .non := fun H8 e8 Q q E => ⟨.ref a, .list ds, false, rfl, Dt.ex (e17.trans e8) hd, hs, fun _ H9 e9 => q H9 e9, fun j hj => by rw [hn] at hj; cases hj⟩
    dsimp only
    refine s_ret (ev_andV (ev_op (ev_call (ea_cons (ev_var rfl) ea_nil) spc) ev_c (rv_val (z := .bl (decide (V.non = V.non))) fun H8 _ Q q => ⟨rfl, q⟩)) fun _ => ev_op (x := .str (PyData.list ds).shown) (y := .str (PyData.list ds).shown) (ev_cb (ea_cons (ev_var rfl) ea_nil) (rc_repr (Dt.ex e17 hd) ft)) (ev_var rfl) (rv_eq rfl)) fun H8 e8 => ?_
    rw [decide_eq_true rfl, decide_eq_true rfl]
    exact q H8 (e17.trans e8)
end
end Cr
namespace Cr
open PySem PySem.Spec PyProof.Rows L2 Evl
abbrev sRight : Stmt := topS 42
abbrev sLaw : Stmt := topS 43
abbrev nRight : List Str := ["_law_pot_here", "_law_modules", "_law_names_here", "_law_program_here", "_law_turn", "_law_long", "_law_odd"]
abbrev nLaw : List Str := ["_law_script", "_law_index"]
theorem scRight : FnScope nRight ["_law_pot_here"] (defScope sRight) := ⟨rfl, rfl, rfl, by decide +kernel, rfl, by decide +kernel, by decide +kernel⟩
theorem scLaw : FnScope nLaw ["_law_script"] (defScope sLaw) := ⟨rfl, rfl, rfl, by decide +kernel, rfl, by decide +kernel, by decide +kernel⟩
def spRight : Sp := fun vs H Q _ => ∃ p : Addr, vs = [.ref p] ∧ Pot H p ∧ ∀ H', Drew p H H' → Q (.bl true) H'
theorem flat_rep (v : V) : ∀ k : Nat, (List.replicate k [v]).flatten = List.replicate k v
  | 0 => rfl
  | k + 1 => by rw [List.replicate_succ, List.replicate_succ, List.flatten_cons, flat_rep v k]; rfl
theorem dt_rep {H : Hp} {v : V} {d : PyData} (h : Dt H v d) : ∀ k : Nat, DtAll H (List.replicate k v) (List.replicate k d)
  | 0 => .nil
  | k + 1 => by rw [List.replicate_succ, List.replicate_succ]; exact .cons h (dt_rep h k)
theorem nw_hid {p T : Addr} {H H' : Hp} {o : HO} (pot : Pot H p) (hT : H T = some o) : Ex (nw H H') (hid p T H') := fun a u h => by
  obtain ⟨h1, h2⟩ := nw_some h
  rw [hid_ne (pot_none pot h1) (fun e => by rw [e, hT] at h1; cases h1)]
  exact h2
section
variable {P : Program} {w : World} {K : PySem.W.Frag} {mg : Str → Option Value} {base : Heap}
theorem ok_right {f : Addr} {fd : FuncData} {k : Nat} (F : Fun K "_law_right" "_law_right" sRight f fd) (B : Blt mg) {tM : Tok} (gM : mg "MOST_STEPS" = some (.int 30 tM))
    (h1 : Has P w K mg base k "_law_names" ["_law_pot_here", "_law_number"] spNames) (h2 : Has P w K mg base k "_law_program" ["_law_pot_here", "_law_modules", "_law_names_here", "_law_most"] spProg) (h3 : Has P w K mg base k "_law_draw" ["_law_pot_here", "_law_most"] spDraw)
    (h4 : Has P w K mg base k "_law_wrong_step" ["_law_pot_here"] spWStep) (h5 : Has P w K mg base k "_law_judged" ["_law_value"] spJ) (h6 : Has P w K mg base k "_law_spoilt" ["_law_pot_here", "_law_program_here"] spSpo)
    (h7 : Has P w K mg base k "_law_choice" ["_law_pot_here", "_law_options"] spChoice) : FnG P w K mg base CX0 (k + 1) f fd ["_law_pot_here"] spRight := by
  obtain ⟨f1, d1, G1, b1, k1, g1⟩ := h1.ex
  obtain ⟨f2, d2, G2, b2, k2, g2⟩ := h2.ex
  obtain ⟨f3, d3, G3, b3, k3, g3⟩ := h3.ex
  obtain ⟨f4, d4, G4, b4, k4, g4⟩ := h4.ex
  obtain ⟨f5, d5, G5, b5, k5, g5⟩ := h5.ex
  obtain ⟨f6, d6, G6, b6, k6, g6⟩ := h6.ex
  obtain ⟨f7, d7, G7, b7, k7, g7⟩ := h7.ex
  refine okG F scRight (fun vs H Q E h => by obtain ⟨_, rfl, _⟩ := h; rfl) (fun cdv A outer s H vs Q E hq hr h => ?_)
  obtain ⟨p, rfl, pot, q⟩ := h
  refine ⟨_, pss_cons (ps_par rfl scRight.nd (i := 1) (j := 2) rfl rfl (by decide) rfl rfl (pa_cons (callG G1 hq hr (by rfl) g1 k1 b1 .nil pass0 (pa_cons (pv 0) (pa_cons pe_int pa_nil))) (pa_cons (callG G1 hq hr (by rfl) g1 k1 b1 .nil pass0 (pa_cons (pv 0) (pa_cons pe_int pa_nil))) pa_nil)) (by rfl))
    (pss_cons (ps_set (i := 3) scRight.nd rfl (.inl rfl) (callG G2 hq hr (by rfl) g2 k2 b2 .nil pass0 (pa_cons (pv 0) (pa_cons (pv 1) (pa_cons (pv 2) (pa_cons pe_int pa_nil))))))
    (pss_cons (ps_if (pt_not (pt_val (callG G5 hq hr (by rfl) g5 k5 b5 .nil pass0 (pa_cons (pv 3) pa_nil)))) (pss_one (ps_ret pe_bl)) pss_nil)
    (pss_cons (ps_expr (pe_bm PySem.F.plainAttrs_list PySem.F.slot_list_append PySem.F.type_list_append mt_append (pv 3) (pa_cons (callG G4 hq hr (by rfl) g4 k4 b4 .nil pass0 (pa_cons (pv 0) pa_nil)) pa_nil)))
    (pss_cons (ps_if (pt_not (pt_val (callG G5 hq hr (by rfl) g5 k5 b5 .nil pass0 (pa_cons (pv 3) pa_nil)))) (pss_one (ps_ret pe_bl)) pss_nil)
    (pss_cons (ps_expr (pe_bm0 PySem.F.plainAttrs_list PySem.F.slot_list_pop PySem.F.type_list_pop mt_pop (pv 3)))
    (pss_cons (ps_if (PW.pt (pw_or (pt_not (pt_val (callG G5 hq hr (by rfl) g5 k5 b5 .nil pass0 (pa_cons (pv 3) pa_nil)))) (pw_or (pt_not (pt_val (callG G5 hq hr (by rfl) g5 k5 b5 .nil pass0 (pa_cons (pe_lst (pa_cons (pe_tup (pa_cons pe_str (pa_cons pe_str (pa_cons pe_int pa_nil)))) pa_nil)) pa_nil))))
        (pw_or1 (pt_not (pt_val (callG G5 hq hr (by rfl) g5 k5 b5 .nil pass0 (pa_cons (pe_lst (pa_cons (pe_tup (pa_cons pe_str (pa_cons pe_str (pa_cons pe_bl pa_nil)))) pa_nil)) pa_nil)))))))) (pss_one (ps_ret pe_bl)) pss_nil)
    (pss_cons (ps_for PassesOwn.never rfl (pi_range1 (by rfl) B.range (pa_cons pe_int pa_nil)) (pg_name (i := 4) scRight.nd rfl (.inl rfl))
      (pss_one (ps_if (pt_not (pt_val (callG G5 hq hr (by rfl) g5 k5 b5 .nil pass0 (pa_cons (callG G6 hq hr (by rfl) g6 k6 b6 .nil pass0 (pa_cons (pv 0) (pa_cons (pv 3) pa_nil))) pa_nil)))) (pss_one (ps_ret pe_bl)) pss_nil)))
    (pss_cons (ps_set (i := 5) scRight.nd rfl (.inl rfl) (pe_op op_rep (pe_lst (pa_cons (pe_tup (pa_cons pe_str (pa_cons pe_str (pa_cons pe_int pa_nil)))) pa_nil)) (pe_op op_add pe_int (callG G3 hq hr (by rfl) g3 k3 b3 .nil pass0 (pa_cons (pv 0) (pa_cons pe_int pa_nil))))))
    (pss_cons (ps_set (i := 6) scRight.nd rfl (.inl rfl) (pe_lst (pa_cons pe_non (pa_cons pe_int (pa_cons pe_str (pa_cons pe_str (pa_cons (pe_tup pa_nil) (pa_cons (pe_callTy call_tuple_of (by rfl) B.tuple bTuple (pa_cons (pv 3) pa_nil)) (pa_cons pe_dnewK (pa_cons (pe_tup (pa_cons pe_str pa_nil))
        (pa_cons (pe_disp (pps_cons pe_int (pe_tup (pa_cons pe_str pa_nil)) pps_nil) (by rfl) (by rfl) (fun z => by cases z) (by decide)) (pa_cons pe_bl pa_nil))))))))))))
    (pss_one (ps_ret (pe_and (callG G5 hq hr (by rfl) g5 k5 b5 .nil pass0 (pa_cons (pv 5) pa_nil)) (pe_and (callG G5 hq hr (by rfl) g5 k5 b5 .nil pass0 (pa_cons (callG G7 hq hr (by rfl) g7 k7 b7 .nil pass0 (pa_cons (pv 0) (pa_cons (pv 6) pa_nil))) pa_nil))
      (pe_one (pe_cmpR op_eq (pe_glob (v := .int 30) (by rfl) gM ⟨_, rfl⟩) pe_int (nomark _)))))))))))))))), ?_⟩
  refine ⟨.ref p, rfl, p, 4, rfl, pot, by decide, fun m ms H1 zm hm lm nms r1 => ?_⟩
  refine ⟨.ref p, rfl, p, 3, rfl, r1.pot, by decide, fun n ns H2 zn hn ln nns r2 => ?_⟩
  refine ⟨_, _, rfl, ?_⟩
  have r12 := r1.trans r2
  have mp : m ≠ p := pot_none pot zm
  have np : n ≠ p := pot_none pot (fresh_drew r1 pot zn)
  -- the program
  refine ⟨.ref p, rfl, .ref m, rfl, .ref n, rfl, p, m, n, ms, ns, rfl, r2.pot, mp, np, r2.at mp hm, hn, ⟨by omega, by omega, by omega, by omega, nms, nns⟩, fun T xs ds H3 zT hT hds hge hl r3 => ?_⟩
  have r13 := r12.trans r3
  have Tp : T ≠ p := pot_none r12.pot zT
  have lx := hds.length
  have jd : ∀ {i : Nat} {σ : L2.St} {H' : Hp} {L : Addr} {ys : List V} {es : List PyData}, σ[i]? = some (some (.ref L)) → H' L = some (.lst ys) → DtAll H' ys es → es.all ge = true → es.length ≤ 40 → Ev (tCall spJ [] E0 (tCons (tVar i) tNil)) σ H' (.bl true) :=
    fun h1 h2 h3 h4 h5 => ev_call (ea_cons (ev_var h1) ea_nil) (spv_J (.lst h2 h3) (gp_list h4 h5))
  refine q_when (b := false) (et_is (et_not (et_B (jd rfl hT (DtAll.ex (hid_ex _ _ _) hds) hge (by omega)))) rfl) (fun z => absurd z (by decide)) (fun _ H4 e4 => ?_)
  have r4 := r13.trans (Drew.of r13.pot e4)
  have hT4 := e4 _ _ hT
  have hds4 := DtAll.ex (hid_mono e4) hds
  -- one more
  refine ⟨.ref T, rfl, .inl ⟨rfl, _, sq_of hT4⟩, .ref p, rfl, p, rfl, r4.pot, fun v d H5 hv gv r5 => ?_⟩
  refine ⟨T, xs, v, rfl, rfl, r5.at Tp hT4, sz_lt (by omega), ?_⟩
  have hv5 := Dt.ex (hid_upd (o := .lst (xs ++ [v]))) (Dt.ex (nw_hid r4.pot hT4) hv)
  have hds5 := DtAll.ex (hid_upd (o := .lst (xs ++ [v]))) (DtAll.ex (hid_drew r5) hds4)
  have r5' : Drew p H (upd H5 T (.lst (xs ++ [v]))) := (r4.trans r5).mut (fresh_drew r12 pot zT) Tp
  have hT5 : (upd H5 T (.lst (xs ++ [v]))) T = some (.lst (xs ++ [v])) := upd_same
  generalize upd H5 T (.lst (xs ++ [v])) = H6 at hv5 hds5 r5' hT5
  refine q_when (b := false) (et_is (et_not (et_B (jd rfl hT5 (DtAll.ex (hid_ex _ _ _) (DtAll.append hds5 (.cons hv5 .nil))) (all_app hge (by rw [List.all_cons, gv]; rfl)) (by rw [List.length_append]; show _ + 1 ≤ 40; omega)))) rfl) (fun z => absurd z (by decide)) (fun _ H7 e7 => ?_)
  have r7 := r5'.trans (Drew.of r5'.pot e7)
  -- and away
  refine ⟨.ref T, rfl, .inl ⟨rfl, _, sq_of (e7 _ _ hT5)⟩, T, xs ++ [v], v, rfl, rfl, e7 _ _ hT5, by simp, ?_⟩
  have edl : (xs ++ [v]).dropLast = xs := List.dropLast_concat
  rw [edl]
  have hds8 := DtAll.ex (hid_upd (o := .lst xs)) (DtAll.ex (hid_mono e7) hds5)
  have r8 : Drew p H (upd H7 T (.lst xs)) := r7.mut (fresh_drew r12 pot zT) Tp
  have hT8 : (upd H7 T (.lst xs)) T = some (.lst xs) := upd_same
  generalize upd H7 T (.lst xs) = H8 at hds8 r8 hT8
  -- three
  have dl : ∀ {te : TE} {σ : L2.St} {H' : Hp} {d : PyData}, (∀ H'', Ex H' H'' → ∀ Q : VK, (∀ t H3, Ex H'' H3 → Dt H3 t d → Q t H3) → te σ H'' Q) → ge d = true → Ev (tCall spJ [] E0 (tCons (tLst (tCons te tNil)) tNil)) σ H' (.bl true) := fun {te σ H' d} h g H1 e1 Q q => by
    refine h H1 e1 _ fun t H2 e2 ht => ⟨by show 1 ≤ sizeLine; decide, fun l zl => ⟨.ref l, .list [d], rfl, .lst upd_same (.cons (Dt.ex (Ex.new zl) ht) .nil), gp_list (by rw [List.all_cons, g]; rfl) (by show 1 ≤ 40; decide), fun H3 e3 => q H3 ((e2.trans (Ex.new zl)).trans e3)⟩⟩
  refine q_when (b := false) (et_is (et_or (b := false) (et_not (et_B (jd rfl hT8 (DtAll.ex (hid_ex _ _ _) hds8) hge (by omega)))) fun _ => et_is (et_or (b := false) (et_not (et_B (dl (d := .tuple [.str "set", .str "a", .int 1]) (fun H1 _ Q q => ⟨by show 3 ≤ sizeLine; decide, fun t zt => q (.ref t) _ (Ex.new zt) (.tup upd_same (.cons (.str _) (.cons (.str _) (.cons (.int _) .nil))))⟩) (by decide +kernel))))
      fun _ => et_is (et_not (et_B (dl (d := .tuple [.str "set", .str "a", .bool true]) (fun H1 _ Q q => ⟨by show 3 ≤ sizeLine; decide, fun t zt => q (.ref t) _ (Ex.new zt) (.tup upd_same (.cons (.str _) (.cons (.str _) (.cons (.bl _) .nil))))⟩) (by decide +kernel)))) rfl) rfl) rfl) (fun z => absurd z (by decide)) (fun _ H9 e9 => ?_)
  have r9 := r8.trans (Drew.of r8.pot e9)
  have hT9 := e9 _ _ hT8
  have hds9 := DtAll.ex (hid_mono e9) hds8
  -- spoilt ones
  refine ⟨5, rfl, by decide, by decide, for_range (lo := 0) (n := 5) (fun i σ H' => ∃ y4, σ = [some (.ref p), some (.ref m), some (.ref n), some (.ref T), y4, none, none] ∧ Drew p H9 H') ⟨none, rfl, Drew.refl r9.pot⟩ (fun i σ H10 hi hP => ?_) (fun σ H10 hP => ?_)⟩
  · obtain ⟨y4, rfl, dr⟩ := hP
    refine ⟨.ref p, rfl, .ref T, rfl, p, T, xs, ds, rfl, dr.pot, Tp, dr.at Tp hT9, DtAll.ex (hid_wo p T H10) (DtAll.ex (hid_drew dr) hds9), hge, hl, fun L ys es H11 hL hes hge' hl' r11 => ?_⟩
    refine ⟨.ref L, .list es, rfl, .lst hL (DtAll.ex (wo_ex _ _) hes), gp_list hge' (by omega), fun H12 e12 => ⟨true, rfl, ?_⟩⟩
    refine iteF ?_
    exact ⟨_, rfl, (dr.trans r11).trans (Drew.of (dr.trans r11).pot e12)⟩
  · obtain ⟨y4, rfl, dr⟩ := hP
    have r10 := r9.trans dr
    have hT10 := dr.at Tp hT9
    have hds10 := DtAll.ex (hid_drew dr) hds9
    -- the long one
    refine ⟨by show 3 ≤ sizeLine; decide, fun t zt => ⟨by show 1 ≤ sizeLine; decide, fun l zl => ?_⟩⟩
    have et := Ex.new (o := .tup [.str "set", .str "a", .int 1]) zt
    have el := Ex.new (o := .lst [.ref t]) zl
    have r11 := r10.trans (Drew.of r10.pot (et.trans el))
    have tp : t ≠ p := r10.neq zt
    have lp : l ≠ p := (r10.trans (Drew.of r10.pot et)).neq zl
    have hl11 : (upd (upd H10 t (.tup [.str "set", .str "a", .int 1])) l (.lst [.ref t])) l = some (.lst [.ref t]) := upd_same
    have ht11 : (upd (upd H10 t (.tup [.str "set", .str "a", .int 1])) l (.lst [.ref t])) t = some (.tup [.str "set", .str "a", .int 1]) := el _ _ upd_same
    have hT11 := (et.trans el) _ _ hT10
    have hds11 := DtAll.ex (hid_mono (et.trans el)) hds10
    generalize upd (upd H10 t (.tup [.str "set", .str "a", .int 1])) l (.lst [.ref t]) = H11 at r11 hl11 ht11 hT11 hds11
    refine ⟨.ref p, rfl, p, 4, rfl, by decide, by decide +kernel, r11.pot, fun z H12 a1 a2 r12' => ?_⟩
    have r13' := r11.trans r12'
    refine ⟨29, z, rfl, rfl, l, 29 + z, [.ref t], rfl, rfl, r12'.at lp hl11, by omega, by omega, sz_of (by show 1 * _ ≤ _; omega), fun W zW => ?_⟩
    rw [flat_rep]
    have eW := Ex.new (o := .lst (List.replicate (29 + z).toNat (.ref t))) zW
    have hW : (upd H12 W (.lst (List.replicate (29 + z).toNat (.ref t)))) W = some (.lst (List.replicate (29 + z).toNat (.ref t))) := upd_same
    have Wp : W ≠ p := r13'.neq zW
    have r14 := r13'.trans (Drew.of r13'.pot eW)
    have ht14 := eW _ _ (r12'.at tp ht11)
    have hT14 := eW _ _ (r12'.at Tp hT11)
    have hds14 := DtAll.ex (hid_mono eW) (DtAll.ex (hid_drew r12') hds11)
    generalize upd H12 W (.lst (List.replicate (29 + z).toNat (.ref t))) = H14 at hW r14 ht14 hT14 hds14
    -- the odd ones
    refine ⟨Nat.zero_le _, fun t0 z0 => ?_⟩
    have e0 := Ex.new (o := .tup []) z0
    have h0 : (upd H14 t0 (.tup [])) t0 = some (.tup []) := upd_same
    generalize upd H14 t0 (.tup []) = J0 at e0 h0
    refine ⟨.ref T, rfl, T, xs, rfl, .inl ⟨sq_of (e0 _ _ hT14), fun t1 z1 => ?_⟩⟩
    have e1 := Ex.new (o := .tup xs) z1
    have h1' : (upd J0 t1 (.tup xs)) t1 = some (.tup xs) := upd_same
    generalize upd J0 t1 (.tup xs) = J1 at e1 h1'
    refine fun d0 zd0 => ?_
    have e2 := Ex.new (o := .dK []) zd0
    have h2' : (upd J1 d0 (.dK [])) d0 = some (.dK []) := upd_same
    generalize upd J1 d0 (.dK []) = J2 at e2 h2'
    refine ⟨by show 1 ≤ sizeLine; decide, fun t2 z2 => ?_⟩
    have e3 := Ex.new (o := .tup [.str "fail"]) z2
    have h3' : (upd J2 t2 (.tup [.str "fail"])) t2 = some (.tup [.str "fail"]) := upd_same
    generalize upd J2 t2 (.tup [.str "fail"]) = J3 at e3 h3'
    refine fun dd zdd => ⟨by show 1 ≤ sizeLine; decide, fun t3 z3 => ?_⟩
    have n3 : t3 ≠ dd := fun e => by rw [e, upd_same] at z3; cases z3
    refine ⟨by rw [upd_ne (Ne.symm n3)]; exact upd_same, [(.inl 0, .ref t3)], rfl, by show 1 ≤ 15; decide, ?_⟩
    have em : mergeK [] [((.inl 0 : Key), V.ref t3)] = [((.inl 0 : Key), V.ref t3)] := rfl
    rw [em]
    have e4 : Ex J3 (upd (upd (upd J3 dd (.dK [])) t3 (.tup [.str "fail"])) dd (.dK [(.inl 0, .ref t3)])) := Ex.mut ((Ex.new zdd).trans (Ex.new z3)) zdd
    have h4' : (upd (upd (upd J3 dd (.dK [])) t3 (.tup [.str "fail"])) dd (.dK [(.inl 0, .ref t3)])) dd = some (.dK [(.inl 0, .ref t3)]) := upd_same
    have h5' : (upd (upd (upd J3 dd (.dK [])) t3 (.tup [.str "fail"])) dd (.dK [(.inl 0, .ref t3)])) t3 = some (.tup [.str "fail"]) := by rw [upd_ne n3]; exact upd_same
    generalize upd (upd (upd J3 dd (.dK [])) t3 (.tup [.str "fail"])) dd (.dK [(.inl 0, .ref t3)]) = J4 at e4 h4' h5'
    refine ⟨by show 10 ≤ sizeLine; decide, fun o zo => ?_⟩
    have e5 := Ex.new (o := .lst [.non, .int 0, .str "", .str "fail", .ref t0, .ref t1, .ref d0, .ref t2, .ref dd, .bl true]) zo
    have ho : (upd J4 o (.lst [.non, .int 0, .str "", .str "fail", .ref t0, .ref t1, .ref d0, .ref t2, .ref dd, .bl true])) o = some (.lst [.non, .int 0, .str "", .str "fail", .ref t0, .ref t1, .ref d0, .ref t2, .ref dd, .bl true]) := upd_same
    generalize upd J4 o (.lst [.non, .int 0, .str "", .str "fail", .ref t0, .ref t1, .ref d0, .ref t2, .ref dd, .bl true]) = J5 at e5 ho
    have c3 := e3.trans (e4.trans e5)
    have c2 := e2.trans c3
    have c1 := e1.trans c2
    have c0 := e0.trans c1
    have r15 := r14.trans (Drew.of r14.pot c0)
    have ne : ∀ {b : Addr} {Hb : Hp}, Hb b = none → Ex H14 Hb → b ≠ p := fun hb eb => (r14.trans (Drew.of r14.pot eb)).neq hb
    have t0p : t0 ≠ p := r14.neq z0
    have t1p : t1 ≠ p := ne z1 e0
    have d0p : d0 ≠ p := ne zd0 (e0.trans e1)
    have t2p : t2 ≠ p := ne z2 ((e0.trans e1).trans e2)
    have ddp : dd ≠ p := ne zdd (((e0.trans e1).trans e2).trans e3)
    have t3p : t3 ≠ p := fun e => by
      have zz : J3 t3 = none := fresh_back (Ex.new zdd) z3
      exact ne zz (((e0.trans e1).trans e2).trans e3) e
    have op : o ≠ p := ne zo ((((e0.trans e1).trans e2).trans e3).trans e4)
    have wp : ∀ {b : Addr} {u : HO}, b ≠ p → J5 b = some u → wo p J5 b = some u := fun h1 h2 => by rw [wo_ne h1]; exact h2
    have hdsJ : DtAll (wo p J5) xs ds := DtAll.ex (hid_wo p T J5) (DtAll.ex (hid_mono c0) hds14)
    have dts : DtAll (wo p J5) [.non, .int 0, .str "", .str "fail", .ref t0, .ref t1, .ref d0, .ref t2, .ref dd, .bl true]
        [.none, .int 0, .str "", .str "fail", .tuple [], .tuple ds, .dict [], .tuple [.str "fail"], .dict [(.int 0, .tuple [.str "fail"])], .bool true] :=
      .cons .non (.cons (.int _) (.cons (.str _) (.cons (.str _) (.cons (.tup (wp t0p (c1 _ _ h0)) .nil) (.cons (.tup (wp t1p (c2 _ _ h1')) hdsJ) (.cons (.dct (wp d0p (c3 _ _ h2')) .nil) (.cons (.tup (wp t2p ((e4.trans e5) _ _ h3')) (.cons (.str _) .nil))
        (.cons (.dct (wp ddp (e5 _ _ h4')) (.cons (k := .inl 0) (.tup (wp t3p (e5 _ _ h5')) (.cons (.str _) .nil)) .nil)) (.cons (.bl _) .nil)))))))))
    have gps : ([.none, .int 0, .str "", .str "fail", .tuple [], .tuple ds, .dict [], .tuple [.str "fail"], .dict [(.int 0, .tuple [.str "fail"])], .bool true] : List PyData).all gp = true := by
      have g5 : gp (.tuple ds) = true := gp_tuple hge (by omega)
      have g1' : ([.none, .int 0, .str "", .str "fail", .tuple []] : List PyData).all gp = true := by decide +kernel
      have g2' : ([.dict [], .tuple [.str "fail"], .dict [(.int 0, .tuple [.str "fail"])], .bool true] : List PyData).all gp = true := by decide +kernel
      rw [show ([.none, .int 0, .str "", .str "fail", .tuple [], .tuple ds, .dict [], .tuple [.str "fail"], .dict [(.int 0, .tuple [.str "fail"])], .bool true] : List PyData) = [.none, .int 0, .str "", .str "fail", .tuple []] ++ (.tuple ds :: [.dict [], .tuple [.str "fail"], .dict [(.int 0, .tuple [.str "fail"])], .bool true]) from rfl, List.all_append, g1', Bool.true_and, List.all_cons, g5, g2']
      rfl
    -- the end
    have gt : ge (.tuple [.str "set", .str "a", .int 1]) = true := by decide +kernel
    refine ⟨.ref W, rfl, .ref W, .list (List.replicate (29 + z).toNat (.tuple [.str "set", .str "a", .int 1])), rfl, .lst (c0 _ _ hW) (dt_rep (.tup (c0 _ _ ht14) (.cons (.str _) (.cons (.str _) (.cons (.int _) .nil)))) _),
      gp_list (List.all_eq_true.mpr fun x hx => by rw [List.eq_of_mem_replicate hx]; exact gt) (by rw [List.length_replicate]; omega), fun H15 e15 => ⟨true, rfl, ?_⟩⟩
    refine iteT ?_
    have r16 := r15.trans (Drew.of r15.pot e15)
    refine ⟨.ref p, rfl, .ref o, rfl, p, r16.pot, .inl ⟨o, _, rfl, op, e15 _ _ ho, by show 0 < 10; decide, by show 10 ≤ 1000; decide, fun u H16 hu r17 => ?_⟩⟩
    obtain ⟨du, h1m, h2m⟩ := dt_mem dts hu
    refine ⟨u, du, rfl, Dt.ex (wo_ex _ _) (Dt.ex (wo_drew r17) (Dt.ex (wo_drew (Drew.of r15.pot e15)) h2m)), List.all_eq_true.mp gps du h1m, fun H17 e17 => ⟨true, rfl, ?_⟩⟩
    refine iteT ?_
    refine ⟨rfl, ?_⟩
    rw [decide_eq_true rfl]
    exact q H17 ((r16.trans r17).trans (Drew.of (r16.trans r17).pot e17))

def spLaw (K : PySem.W.Frag) : Sp := fun vs H Q _ => ∃ (a : Addr) (ns : List Int), vs = [.ref a] ∧ SqL K H a (ns.map V.int) ∧ ns.length ≤ 63 ∧ ∀ H', Q (.bl true) H'
theorem ok_law {f : Addr} {fd : FuncData} {k : Nat} (F : Fun K "law" "law" sLaw f fd) (B : Blt mg) (h2 : Has P w K mg base k "_law_right" ["_law_pot_here"] spRight) (h3 : Has P w K mg base k "_law_pot" ["_law_script", "_law_index"] (spPot K)) :
    FnG P w K mg base CX0 (k + 1) f fd ["_law_script"] (spLaw K) := by
  obtain ⟨f2, d2, G2, b2, k2, g2⟩ := h2.ex
  obtain ⟨f3, d3, G3, b3, k3, g3⟩ := h3.ex
  refine okG F scLaw (fun vs H Q E h => by obtain ⟨_, _, rfl, _⟩ := h; rfl) (fun cdv A outer s H vs Q E hq hr h => ?_)
  obtain ⟨a, ns, rfl, hS, hl, q⟩ := h
  refine ⟨_, pss_one (ps_ret (pe_callB (cr_all rfl) (by rfl) B.all bAll (pa_cons (pe_lc (own := [("_law_index", 1)]) (g := gName 1) (tt := tYes) rfl scLaw.nd (pi_range1 (by rfl) B.range (pa_cons (pe_callB (call_max2 rfl) (by rfl) B.max bMax (pa_cons pe_int (pa_cons (pe_callB (call_min2 rfl) (by rfl) B.min bMin (pa_cons pe_int (pa_cons (pe_callB call_len_seq (by rfl) B.len bLen (pa_cons (pv 0) pa_nil)) pa_nil))) pa_nil))) pa_nil))
      (blkOk_by (own := [("_law_index", 1)]) (N := nLaw) (sc := defScope sLaw) (by decide +kernel)) (fun _ _ _ _ _ => pg_name (i := 1) scLaw.nd rfl (Or.inl rfl)) (fun _ _ _ _ _ => pts_nil)
      (fun _ _ _ _ _ => callG G2 hq hr (by rfl) g2 k2 b2 .nil pass0 (pa_cons (callG G3 hq hr (by rfl) g3 k3 b3 .nil pass0 (pa_cons (pv 0) (pa_cons (pv 1) pa_nil))) pa_nil))) pa_nil))), ?_⟩
  let mn : Int := if (((ns.map V.int).length : Nat) : Int) < 5 then (((ns.map V.int).length : Nat) : Int) else 5
  let mx : Int := if mn > 1 then mn else 1
  have hmn : 0 ≤ mn ∧ mn ≤ 5 := by
    show 0 ≤ (if (((ns.map V.int).length : Nat) : Int) < 5 then (((ns.map V.int).length : Nat) : Int) else 5) ∧ (if (((ns.map V.int).length : Nat) : Int) < 5 then (((ns.map V.int).length : Nat) : Int) else 5) ≤ 5
    split <;> omega
  have hmx : 1 ≤ mx ∧ mx ≤ 5 := by
    show 1 ≤ (if mn > 1 then mn else 1) ∧ (if mn > 1 then mn else 1) ≤ 5
    split <;> omega
  have lc := el_lcW (wi := iRng1 (tCons (tCB (fun xs H Q => ∃ i j, xs = [V.int i, V.int j] ∧ Q (.int (if j > i then j else i)) H) (tCons (tC (.int 1)) (tCons (tCB (fun xs H Q => ∃ i j, xs = [V.int i, V.int j] ∧ Q (.int (if j < i then j else i)) H) (tCons (tC (.int 5)) (tCons (tCB (fun xs H Q => ∃ p ys, xs = [V.ref p] ∧ (SqL K H p ys ∨ SqT K H p ys) ∧ Q (.int ys.length) H) (tCons (tVar 0) tNil)) tNil))) tNil))) tNil)) (g := gName 1) (tt := tYes)
    (te := tCall spRight [] E0 (tCons (tCall (spPot K) [] E0 (tCons (tVar 0) (tCons (tVar 1) tNil))) tNil)) (vs := [1]) (σ := [some (.ref a), none]) (H := H) (n := mx.toNat) (Y := YFn fun i => .int (0 + i)) (fun _ => true) (fun _ => .bl true) (by omega)
    (fun H2 e2 R r => ⟨.ref a, rfl, a, _, rfl, .inl (ex_l e2 hS), 5, _, rfl, 1, mn, rfl, mx, rfl, by omega, by omega, r H2 _ _ walk_range (fun _ _ _ z => z) (Ex.refl H2) trivial⟩)
    (fun i y H2 H3 e2 hi hy => by
      obtain ⟨rfl, rfl⟩ := hy
      refine ⟨Ex.refl _, [some (.ref a), some (.int (0 + i))], rfl, fun R r => r, fun H4 _ Q q => q H4 (Ex.refl H4), fun _ H4 e4 Q q => ?_⟩
      refine ⟨.ref a, rfl, .int (0 + i), rfl, a, ns, i, by rw [Int.zero_add]; rfl, ex_l (e2.trans e4) hS, by omega, fun p H5 hp e5 pot => ⟨p, rfl, pot, fun H6 dr => q H6 fun b o hb => dr.at (ne_of_none hb hp) (e5 b o hb)⟩⟩)
  have eg : given mx.toNat (fun _ => true) (fun _ => V.bl true) = (List.replicate mx.toNat true).map V.bl := by
    rw [given_all, List.map_const', List.length_range, List.map_replicate]
  rw [eg] at lc
  refine s_ret (ev_all lc) fun H2 e2 => ?_
  have et : (List.replicate mx.toNat true).all id = true := List.all_eq_true.mpr fun b hb => by rw [List.eq_of_mem_replicate hb]; rfl
  rw [et]
  exact q H2
end
end Cr
/-! sets of texts: made, added to, sorted -/
namespace Cr
open PySem PySem.Spec PyProof.Rows L2 Evl
def txtOf (e : Int × Value) : Str := match e.2 with | .str k _ => k | _ => ""
abbrev txts (es : Array (Int × Value)) : List Str := es.toList.map txtOf
abbrev hsh (P : Program) (w : World) (k : Str) : Int := (PySem.strKind P w).hash k
def TxtE (P : Program) (w : World) (e : Int × Value) : Prop := ∃ k tk, e = (hsh P w k, Value.str k tk)
/-- the set at a: its members are those of l -/
structure TxtIn (P : Program) (w : World) (l : List Str) (es : Array (Int × Value)) (t : SetTable) : Prop where
  good : ∀ e ∈ es.toList, TxtE P w e
  once : (txts es).Nodup
  mem : ∀ k, k ∈ l ↔ k ∈ txts es
  few : es.size ≤ l.length
  fit : t.fits es.size = true
  ris : Ris t.place.toList
  led : w.params.followText "set-order" = true ∨ t.led = true
def TxtSet (P : Program) (w : World) (h : Heap) (a : Addr) (l : List Str) : Prop := ∃ o es ep t, h.get? a = some o ∧ o.ExactSet ∧ o.data = .set es ep t ∧ TxtIn P w l es t
section
variable {P : Program} {w : World} {A : Around} {E : Value → Shared → Prop} {s : Shared} {a : Addr} {l : List Str}
theorem txt_is {e : Int × Value} (g : TxtE P w e) (k : Str) : (PySem.strKind P w).is k e.2 = true ↔ txtOf e = k := by
  obtain ⟨k0, tk, rfl⟩ := g
  show (PySem.strKind P w).is k (.str k0 tk) = true ↔ k0 = k
  simp [PySem.strKind, Value.isStrOf]
theorem txt_elems {es : List (Int × Value)} (g : ∀ e ∈ es, TxtE P w e) : ElemsOf (PySem.strKind P w) es := fun e he => by
  obtain ⟨k, tk, rfl⟩ := g e he
  exact ⟨⟨k, strKind_is P w k tk, rfl⟩, rfl⟩
theorem TxtIn.perm {es es' : Array (Int × Value)} {t t' : SetTable} (T : TxtIn P w l es t) (pm : es'.toList.Perm es.toList) (hf : t'.fits es'.size = true) (hr : Ris t'.place.toList) (hl : t'.led = t.led) : TxtIn P w l es' t' where
  good := fun e he => T.good e (pm.mem_iff.mp he)
  once := (pm.map txtOf).nodup_iff.mpr T.once
  mem := fun k => (T.mem k).trans (pm.map txtOf).mem_iff.symm
  few := by
    have z := pm.length_eq
    rw [Array.length_toList, Array.length_toList] at z
    rw [z]
    exact T.few
  fit := hf
  ris := hr
  led := T.led.imp id fun z => hl.trans z
/-- laid down, and once more where the table is full -/
theorem txt_tail {g : Bool → Sem Unit} (hg : ∀ (b : Bool) (s₁ : Shared) (Q' : Unit → Shared → Prop), Q' () s₁ → wpAny (model P w) A (g b) Q' E s₁) {o : Obj} {es es1 : Array (Int × Value)} {ep : Nat} {t t1 : SetTable}
    (ho : s.heap.get? a = some o) (hx : o.ExactSet) (hd : o.data = .set es ep t) (T : TxtIn P w l es1 t1) (hb : es1.size < scanBound) {wd : Bool} {R : Option Bool → Shared → Prop} (hR : ∀ h', Heap.SameBut a s.heap h' → TxtSet P w h' a l → R (some true) { s with heap := h' }) :
    wpAny (model P w) A (do
        storeSet a es1 t1
        if (!wd && t1.tooFull) = true then do
            g (relayAll t1 es1 (SetTable.grown es1.size)).2.2
            storeSet a (relayAll t1 es1 (SetTable.grown es1.size)).1 (relayAll t1 es1 (SetTable.grown es1.size)).2.1
            pure (some true)
          else pure (some true)) R E s := by
  have o1 := L2.store_at (es' := es1) (t' := t1) ho hd
  have b1 := Heap.SameBut.update s.heap a (Obj.putSet es1 t1)
  refine wpAny_bind (wpAny_storeSet_of ho hd ?_ (fits_of_scanBound hb))
  split
  case isFalse => exact wpAny_pure (hR _ b1 ⟨_, es1, _, t1, o1, hx, rfl, T⟩)
  case isTrue =>
    have q1 := relayAll_perm t1 es1 (SetTable.grown es1.size)
    have q2 := relayAll_fits t1 es1 (SetTable.grown es1.size)
    have q3 := relayAll_ris t1 es1 (SetTable.grown es1.size)
    have q4 := relayAll_led t1 es1 (SetTable.grown es1.size)
    generalize relayAll t1 es1 (SetTable.grown es1.size) = Z at q1 q2 q3 q4 ⊢
    obtain ⟨es2, t2, gave⟩ := Z
    dsimp only at q1 q2 q3 q4 ⊢
    have sz : es2.size = es1.size := by
      have z := q1.length_eq
      rwa [Array.length_toList, Array.length_toList] at z
    refine wpAny_bind (hg _ _ _ (wpAny_bind (wpAny_storeSet_of o1 rfl ?_ (fits_of_scanBound (sz ▸ hb)))))
    exact wpAny_pure (hR _ (b1.trans (Heap.SameBut.update _ a _)) ⟨_, es2, _, t2, L2.store_at (es' := es2) (t' := t2) o1 rfl, hx, rfl, T.perm q1 q2 q3 q4⟩)
theorem txt_hashed {k : Str} {tk : Tok} {Q : Bool → Shared → Prop} (R : TxtSet P w s.heap a l) (room : l.length + 1 < scanBound) (hQ : ∀ b h', Heap.SameBut a s.heap h' → TxtSet P w h' a (k :: l) → Q b { s with heap := h' }) :
    wpAny (model P w) A (setAddHashed a (.str k tk) (hsh P w k)) Q E s := by
  obtain ⟨o, es, ep, t, ho, hx, hd, T⟩ := R
  have sc : (Value.str k tk).scannable = true := rfl
  have el := txt_elems T.good
  have fw := T.few
  unfold setAddHashed setAddHashedIn
  refine wpAny_holding (wpAny_bind (wpAny_setState_of ho hd T.fit ?_))
  dsimp only
  rw [byScan_of sc (by omega) el]
  simp only [↓reduceIte]
  unfold setAddByScan
  refine wpAny_bind (wpAny_bind (wpAny_rule (wpAny_bind (wpAny_setScan_of (strKind_is P w k tk) ho hd T.fit el ?_))))
  cases hf : List.findIdx? (fun e => (PySem.strKind P w).is k e.2) es.toList with
  | some j =>
    obtain ⟨hj, pj, _⟩ := List.findIdx?_eq_some_iff_getElem.mp hf
    have kin : k ∈ txts es := List.mem_map.mpr ⟨_, List.getElem_mem hj, (txt_is (T.good _ (List.getElem_mem hj)) k).mp pj⟩
    refine wpAny_pure (wpAny_pure (hQ _ s.heap (Heap.SameBut.refl a s.heap) ⟨o, es, ep, t, ho, hx, hd, { T with mem := fun x => ?_, few := Nat.le_succ_of_le T.few }⟩))
    rw [List.mem_cons, T.mem x]
    exact ⟨fun z => z.elim (fun e => e ▸ kin) id, .inr⟩
  | none =>
    have kout : k ∉ txts es := fun z => by
      obtain ⟨e, he, q⟩ := List.mem_map.mp z
      have c := List.findIdx?_eq_none_iff.mp hf e he
      rw [(txt_is (T.good e he) k).mpr q] at c
      cases c
    have gw : ∀ (b : Bool) {s₁ : Shared} {Q' : Unit → Shared → Prop}, Q' () s₁ → wpAny (model P w) A (match b with | true => rule "set.scan.the-table-gave-way" | false => pure ()) Q' E s₁ := fun b s₁ Q' q => by
      cases b
      · exact wpAny_pure q
      · exact wpAny_rule q
    dsimp only
    have q1 := layNew_perm t es (hsh P w k) (.str k tk)
    have q2 := layNew_fits t es (hsh P w k) (.str k tk)
    have q3 := layNew_ris t es (hsh P w k) (.str k tk) T.ris
    have q4 := layNew_led t es (hsh P w k) (.str k tk)
    generalize layNew t es (hsh P w k) (.str k tk) = Z at q1 q2 q3 q4 ⊢
    obtain ⟨es1, t1, wd, gave⟩ := Z
    dsimp only at q1 q2 q3 q4 ⊢
    rw [Array.toList_push] at q1
    have pc := q1.trans (List.perm_append_singleton _ _)
    have pk : (txts es1).Perm (k :: txts es) := pc.map txtOf
    have sz : es1.size = es.size + 1 := by
      have z := pc.length_eq
      rwa [Array.length_toList, List.length_cons, Array.length_toList] at z
    have T1 : ∀ {t2 : SetTable}, t2.fits es1.size = true → Ris t2.place.toList → t2.led = t1.led → TxtIn P w (k :: l) es1 t2 := fun f r ld =>
      { good := fun e he => by
          rcases List.mem_cons.mp (pc.mem_iff.mp he) with z | z
          · exact ⟨k, tk, z⟩
          · exact T.good e z
        once := pk.nodup_iff.mpr (List.nodup_cons.mpr ⟨kout, T.once⟩)
        mem := fun x => by rw [pk.mem_iff, List.mem_cons, List.mem_cons, T.mem x]
        few := by rw [sz, List.length_cons]; omega
        fit := f
        ris := r
        led := T.led.imp id fun z => ld.trans (q4.trans z) }
    have hb : es1.size < scanBound := by omega
    refine wpAny_bind (gw _ ?_)
    split
    · refine wpAny_bind ?_
      rw [hashByValue_scannable 8 sc]
      refine wpAny_pure ?_
      refine txt_tail (l := k :: l) ?_ ho hx hd (T1 ?_ ?_ ?_) hb ?_
      · intro b s₁ Q' q
        cases b <;> first | exact wpAny_pure q | exact wpAny_rule q
      · first | (split <;> first | exact q2 | exact SetTable.fits_plain_off q2) | exact q2
      · first | (split <;> exact q3) | exact q3
      · first | (split <;> rfl) | rfl
      · intro h' sb r
        exact wpAny_pure (hQ _ h' sb r)
    · refine wpAny_bind (wpAny_pure ?_)
      simp only [↓reduceIte]
      refine txt_tail (l := k :: l) ?_ ho hx hd (T1 q2 q3 rfl) hb ?_
      · intro b s₁ Q' q
        cases b <;> first | exact wpAny_pure q | exact wpAny_rule q
      · intro h' sb r
        exact wpAny_pure (hQ _ h' sb r)
end
end Cr
namespace Cr
open PySem PySem.Spec PyProof.Rows L2 Evl
section
variable {P : Program} {w : World} {A : Around} {E : Value → Shared → Prop} {s : Shared} {a : Addr} {l : List Str}
/-- found.add(k) -/
theorem txt_add {k : Str} {tk : Tok} {Q : Value → Shared → Prop} (R : TxtSet P w s.heap a l) (room : l.length + 1 < scanBound) (hQ : ∀ h', Heap.SameBut a s.heap h' → TxtSet P w h' a (k :: l) → Q .none { s with heap := h', toks := s.toks + 1 }) :
    wpAny (model P w) A (call (.builtin "set.add") [.ref a, .str k tk]) Q E s := by
  have ty : s.TypeIs (.ref a) "set" := by
    obtain ⟨o, es, ep, t, ho, hx, hd, T⟩ := R
    exact ⟨o, ho, hx.1⟩
  refine wpAny_call_entry F.slot_set_add ty F.entry_set_add ?_ (F.args_set_add_2 _ _)
  unfold Builtin.«set.add» Builtin.Frozenset.oneOther
  simp only [List.isEmpty_nil, bind_assoc]
  unfold Builtin.Frozenset.addrOf setAdd
  refine wpAny_bind (wpAny_pure ?_)
  try dsimp only
  refine wpAny_bind (wpAny_pure ?_)
  try dsimp only
  refine wpAny_bind (wpAny_holding (wpAny_bind ((PySem.strKind P w).pyHash (strKind_is P w k tk) ?_)))
  refine txt_hashed (s := { s with toks := s.toks + 1 }) R room fun b h' sb r => ?_
  show wpAny _ _ (ret Value.none) _ _ _
  exact wpAny_pure ⟨_, rfl, hQ h' sb r⟩
theorem txt_fresh {h : Heap} : TxtSet P w (h.push { cls := .type "set", dict := none, data := .set #[] 0 (.fresh 0 0 (!w.params.followText "set-order")) }) h.objs.size [] := by
  obtain ⟨o, es, ep, t, ho, hx, hd, _, _, _, _, hf, hn, hr, hl⟩ := L2.setR_fresh (h := h) w
  have e0 : es = #[] := by
    cases es with
    | mk l =>
      cases l with
      | nil => rfl
      | cons x r => cases hn
  subst e0
  exact ⟨o, #[], ep, t, ho, hx, hd, ⟨fun e he => absurd he (by simp), .nil, fun k => by simp [txts], Nat.le_refl _, hf, hr, hl⟩⟩
theorem strs_are : ∀ {vs : List Value}, (∀ v ∈ vs, ∃ k tk, v = Value.str k tk) → ∃ ss : List Str, StrsAre vs ss ∧ ss = vs.map fun v => txtOf (0, v)
  | [], _ => ⟨[], .nil, rfl⟩
  | v :: r, h => by
    obtain ⟨k, tk, rfl⟩ := h v List.mem_cons_self
    obtain ⟨ss, h1, h2⟩ := strs_are (vs := r) fun u hu => h u (List.mem_cons_of_mem _ hu)
    exact ⟨k :: ss, .cons k tk h1, by rw [h2]; rfl⟩
theorem size_up {h : Heap} (o : Obj) : (h.push o).objs.size = h.objs.size + 1 := by simp [Heap.push]
/-- sorted(found) -/
theorem txt_sorted {Q : Value → Shared → Prop} (R : TxtSet P w s.heap a l) (hh : A.handled = none) (few : l.length < 64)
    (hQ : ∀ s' p (out : Array Value) (c : Nat) (ss : List Str), (∀ b o, s.heap.get? b = some o → s'.heap.get? b = some o) → s'.gens = s.gens → s'.os = s.os → s.heap.objs.size ≤ p → s'.heap.get? p = some (seqObj "list" out c) → StrsAre out.toList ss →
      ss.Nodup → sortedS ss = true → (∀ k, k ∈ ss ↔ k ∈ l) → ss.length ≤ l.length → Q (.ref p) s') : wpAny (model P w) A (call (.builtin "sorted") [.ref a]) Q E s := by
  obtain ⟨o, es, ep, t, ho, hx, hd, T⟩ := R
  have fw := T.few
  refine Calls.call_function_entry kind_sorted plain_sorted entry_sorted (args_sorted1 _) ?_
  unfold Builtin.«sorted»
  refine wpAny_bind (m := checkCount "sorted" 1 1 _) (wpAny_pure (wpAny_bind (L2.collect_set (A := A.in1) hh ⟨o, ho, hx.1, hd⟩ T.fit (by unfold scanBound; omega) T.ris T.led fun s1 vs k1 hz g1 o1 pm => ?_)))
  have lv : vs.length = es.size := by rw [pm.length_eq, List.length_map, Array.length_toList]
  obtain ⟨ss, hS, es'⟩ := strs_are (vs := vs) fun v hv => by
    obtain ⟨e, he, q⟩ := List.mem_map.mp (pm.mem_iff.mp hv)
    obtain ⟨k, tk, rfl⟩ := T.good e he
    exact ⟨k, tk, q.symm⟩
  have pt : ss.Perm (txts es) := by
    rw [es']
    have z := pm.map fun v => txtOf (0, v)
    rw [List.map_map] at z
    exact z
  refine wpAny_bind (wpAny_newList ?_ (by rw [lv, sizeLine_eq]; omega))
  have at1 : (s1.heap.push (seqObj "list" vs.toArray 0)).get? s1.heap.objs.size = some (seqObj "list" vs.toArray 0) := Heap.get?_push_size _ rfl
  refine wpAny_bind (wpAny_holding (wpAny_call_entry slot_list_sort ⟨_, at1, rfl⟩ entry_list_sort (list_sort_treeK strKind_oneLt at1 hS.keysOf (fun v₁ v₂ rest e => keyKind_strs (by rw [← e]; exact hS)) (by omega) fun st' hp hs => ⟨_, rfl, ?_⟩) (args_list_sort _)))
  obtain ⟨ss2, a1, a2, a3⟩ := sorted_out_str hS hp hs
  obtain ⟨c, hc⟩ := sortedHeap_at (vs := vs) (out := (arrOf st').map (·.2)) at1
  have p2 := a2.trans pt
  refine wpAny_pure ⟨_, rfl, hQ _ s1.heap.objs.size _ c ss2 (fun b u e => ?_) g1 o1 hz hc (by simpa using a1) (p2.nodup_iff.mpr T.once) a3 (fun k => by rw [p2.mem_iff, T.mem k]) ?_⟩
  · have q := k1 b u e
    have lt := Heap.lt_size q
    show (sortedHeap (s1.heap.push (seqObj "list" vs.toArray 0)) s1.heap.objs.size vs ((arrOf st').map (·.2))).get? b = some u
    rw [sortedHeap_old (Nat.ne_of_lt lt) (by rw [size_up]; exact Nat.lt_succ_of_lt lt)]
    exact Heap.get?_push_of_some _ q
  · have z : ss2.length = es.size := by rw [p2.length_eq]; simp [txts]
    rw [z]
    exact T.few
end
/-- the set of texts at a, tracked -/
def TxtO (P : Program) (w : World) (a : Addr) (l : List Str) : HO := .ext fun h => TxtSet P w h a l
theorem txtO_new {P : Program} {w : World} {H : Hp} {h : Heap} {a : Addr} {l : List Str} (R : TxtSet P w h a l) : ObjOk P w H h a (TxtO P w a l) := by
  have ⟨o, es, ep, t, ho, r⟩ := R
  refine ⟨R, ⟨o, ho⟩, fun h1 h2 z k => ?_⟩
  obtain ⟨o', es', ep', t', ho', r'⟩ := z
  exact ⟨o', es', ep', t', k o' ho', r'⟩
section
variable {X : Cx} {pins : List (Addr × Obj)} {σ : L2.St} {H : Hp} {s : Shared} {a : Addr} {l : List Str}
theorem txtO_get (I : Inv X pins σ H s) (ha : H a = some (TxtO X.prog X.w a l)) : TxtSet X.prog X.w s.heap a l := (I.hok a _ ha).1
theorem addT_ok {A : Around} {E : Value → Shared → Prop} {k : Str} {tk : Tok} {Q : Value → Shared → Prop} (I : Inv X pins σ H s) (hD : H a = some (TxtO X.prog X.w a l)) (room : l.length + 1 < scanBound) (h : ∀ s', Inv X pins σ (upd H a (TxtO X.prog X.w a (k :: l))) s' → Q .none s') :
    wpAny (model X.prog X.w) A (call (.builtin "set.add") [.ref a, .str k tk]) Q E s := by
  refine txt_add (txtO_get I hD) room fun h' sb new => h _ (I.write (e := a) (t' := s.toks + 1) (by rw [hD]; trivial) (.inl rfl) (fun b u hb hu => (sb.2 b hb).trans hu) ?_ (txtO_new new))
  obtain ⟨o, _, _, _, ho, _⟩ := new
  exact ⟨o, ho⟩
def rSortT (P : Program) (w : World) : List V → Hp → VK → Prop := fun vs H Q => ∃ (a : Addr) (l : List Str), vs = [V.ref a] ∧ H a = some (TxtO P w a l) ∧ l.length < 64 ∧
  ∀ (ss : List Str) (p : Addr), ss.Nodup → sortedS ss = true → (∀ k, k ∈ ss ↔ k ∈ l) → H p = none → Q (.ref p) (upd H p (.lst (ss.map V.str)))
theorem cr_sortT (hc : X.calm = true) : CallR X (.builtin "sorted") (rSortT X.prog X.w) := by
  intro pins s σ H vs us Q I r h
  obtain ⟨a, l, rfl, ha, few, q⟩ := h
  obtain ⟨u, rfl, ru⟩ := vals1 r
  obtain rfl : u = Value.ref a := ru
  refine txt_sorted (txtO_get I ha) (I.ok.hd hc) few fun s' p out c ss k g o hp hg hi nd so mem ln => ?_
  have hz : (ss.map V.str).length ≤ sizeLine := by rw [List.length_map, sizeLine_eq]; omega
  have hn : H p = none := I.hok.fresh hp
  have J : Inv X pins σ (upd H p (.lst (ss.map V.str))) { s with heap := s'.heap, gens := s'.gens, drawn := s'.drawn, toks := s'.toks } :=
    I.call (ch := []) (Un.laid k hp hn) (I.hok.laid k hp ⟨hz, out.toList, c, vals_of_strs hi, hg⟩) (by rw [g]; exact I.bare) (fun _ z => nomatch z)
  obtain ⟨h2, g2, d2, t2, os2⟩ := s'
  have o' : os2 = s.os := o
  subst o'
  exact ⟨.ref p, _, J, rfl, q ss p nd so mem hn⟩
end
end Cr
/-! {elt for a in xs for b in f(a)}: a set of texts -/
namespace Cr
open PySem PySem.Spec PyProof.Rows L2 Evl
abbrev two (elt tA iA tB iB : Expr) (sc : Scope) (pos : Pos) : Expr := .SetComp elt [⟨tA, iA, [], 0⟩, ⟨tB, iB, [], 0⟩] sc pos
section
variable {P : Program} {w : World} {A : Around} {R : Result → Shared → Prop} {s : Shared} {elt tA iA tB iB : Expr} {sc : Scope} {pos : Pos} {it acc : Value} {env : Env}
abbrev er (P : Program) (w : World) (A : Around) (env : Env) (R : Result → Shared → Prop) : Value → Shared → Prop := notedBy (model P w) A env fun e s' => R (.error e) s'
theorem turnA : compTurn (two elt tA iA tB iB sc pos) 0 it acc env = (do
    standAt iA.pos
    match ← pyNext it with
    | none => pure (.done .next)
    | some v =>
      letOwnedTupleGo tA it v
      assign tA env v
      let x ← eval iB env
      standAt iB.pos
      let x ← foldedSetIterable iB env x
      let _ ← runOwn (.compStart (two elt tA iA tB iB sc pos) 1 (← holding [x] (pyIter x)) acc env) env
      again (.compLoop (two elt tA iA tB iB sc pos) 0 it acc env)) := by rfl
theorem turnB : compTurn (two elt tA iA tB iB sc pos) 1 it acc env = (do
    standAt iB.pos
    match ← pyNext it with
    | none => pure (.done .next)
    | some v =>
      letOwnedTupleGo tB it v
      assign tB env v
      (do
        let y ← eval elt env
        standAt elt.pos
        let _ ← call (.builtin "set.add") [acc, y])
      again (.compLoop (two elt tA iA tB iB sc pos) 1 it acc env)) := by rfl
/-- the outer loop -/
theorem loopA (hs : ∀ x, foldedSetIterable iB env x = pure x) (Z : Nat → Shared → Prop)
    (turn : ∀ n s, Z n s → wpAny (model P w) A (pyNext it) (fun r s1 => match r with
      | none => R (.ok .next) s1
      | some v => wpAny (model P w) A (letOwnedTupleGo tA it v) (fun _ s2 => wpAny (model P w) A (assign tA env v) (fun _ s3 => wpAny (model P w) A (eval iB env) (fun x s4 => wpAny (model P w) A (pyIter x) (fun j s5 =>
          codeAny (model P w) A (.compStart (two elt tA iA tB iB sc pos) 1 j acc env) (fun r s' => match r with | .ok _ => ∃ m, m < n ∧ Z m s' | .error _ => False) s5) (er P w A env R) s4) (er P w A env R) s3) (er P w A env R) s2) (er P w A env R) s1) (er P w A env R) s)
    (n : Nat) (h : Z n s) : codeAny (model P w) A (.compLoop (two elt tA iA tB iB sc pos) 0 it acc env) R s := by
  refine codeAny_loop rfl Z (fun n s hZ => ?_) n h
  show wpAny _ A ((compTurn (two elt tA iA tB iB sc pos) 0 it acc env).onRaise (fun x => do noteFrame x env; theTreesLotGoes x)) _ _ s
  refine wpAny_noted ?_
  rw [turnA]
  refine wpAny_bind (wpAny_standAt (wpAny_bind (wpAny_mono (turn n s hZ) (fun r s1 h1 => ?_) fun _ _ z => z)))
  match r, h1 with
  | none, h1 => exact wpAny_pure h1
  | some v, h1 =>
    refine wpAny_bind (wpAny_mono h1 (fun _ s2 h2 => wpAny_bind (wpAny_mono h2 (fun _ s3 h3 => wpAny_bind (wpAny_mono h3 (fun x s4 h4 => ?_) fun _ _ z => z)) fun _ _ z => z)) fun _ _ z => z)
    refine wpAny_bind (wpAny_standAt (wpAny_bind (wpAny_of_eq (hs x) (wpAny_bind (wpAny_holding (wpAny_mono h4 (fun j s5 h5 => ?_) fun _ _ z => z))))))
    refine wpAny_bind (wpAny_runOwn ?_)
    rw [Around.mark_none]
    refine codeAny_mono h5 fun r s6 h6 => ?_
    match r, h6 with
    | .ok _, h6 => first | exact wpAny_pure ⟨rfl, h6⟩ | exact wpAny_bind (wpAny_pure (wpAny_pure ⟨rfl, h6⟩))
/-- the inner loop -/
theorem loopB (Z : Nat → Shared → Prop)
    (turn : ∀ n s, Z n s → wpAny (model P w) A (pyNext it) (fun r s1 => match r with
      | none => R (.ok .next) s1
      | some v => wpAny (model P w) A (letOwnedTupleGo tB it v) (fun _ s2 => wpAny (model P w) A (assign tB env v) (fun _ s3 => wpAny (model P w) A (eval elt env) (fun y s4 =>
          wpAny (model P w) A (call (.builtin "set.add") [acc, y]) (fun _ s5 => ∃ m, m < n ∧ Z m s5) (er P w A env R) s4) (er P w A env R) s3) (er P w A env R) s2) (er P w A env R) s1) (er P w A env R) s)
    (n : Nat) (h : Z n s) : codeAny (model P w) A (.compLoop (two elt tA iA tB iB sc pos) 1 it acc env) R s := by
  refine codeAny_loop rfl Z (fun n s hZ => ?_) n h
  show wpAny _ A ((compTurn (two elt tA iA tB iB sc pos) 1 it acc env).onRaise (fun x => do noteFrame x env; theTreesLotGoes x)) _ _ s
  refine wpAny_noted ?_
  rw [turnB]
  refine wpAny_bind (wpAny_standAt (wpAny_bind (wpAny_mono (turn n s hZ) (fun r s1 h1 => ?_) fun _ _ z => z)))
  match r, h1 with
  | none, h1 => exact wpAny_pure h1
  | some v, h1 =>
    refine wpAny_bind (wpAny_mono h1 (fun _ s2 h2 => wpAny_bind (wpAny_mono h2 (fun _ s3 h3 => ?_) fun _ _ z => z)) fun _ _ z => z)
    refine wpAny_bind (wpAny_bind (wpAny_mono h3 (fun y s4 h4 => wpAny_bind (wpAny_standAt (wpAny_bind (wpAny_mono h4 (fun _ s5 h5 => wpAny_pure (wpAny_pure ⟨rfl, h5⟩)) fun _ _ z => z)))) fun _ _ z => z))
/-- the inner start -/
theorem startB (h0 : codeAny (model P w) A (.compLoop (two elt tA iA tB iB sc pos) 1 it acc env) R s)
    (h : wpAny (model P w) A (pyIter it) (fun j s' => codeAny (model P w) A (.compLoop (two elt tA iA tB iB sc pos) 1 j acc env) R s') (er P w A env R) s) :
    codeAny (model P w) A (.compStart (two elt tA iA tB iB sc pos) 1 it acc env) R s := by
  refine codeAny_of_tree ?_
  show wpAny _ _ ((compStart (two elt tA iA tB iB sc pos) 1 it acc env).onRaise (fun x => do noteFrame x env; standAt theWindowsPlace)) _ _ s
  refine wpAny_notedAt ?_
  unfold compStart
  show wpAny _ _ (ask >>= _) _ _ s
  refine wpAny_bind (wpAny_askSetting (wpAny_ite ?_))
  split
  · first | exact wpAny_bind (wpAny_pure (wpAny_pure ⟨rfl, h0⟩)) | exact wpAny_pure ⟨rfl, h0⟩
  · first
      | exact wpAny_bind (wpAny_rule (wpAny_bind (wpAny_standAt (wpAny_bind (wpAny_mono h (fun j s' z => wpAny_pure ⟨rfl, z⟩) fun _ _ z => z)))))
      | (refine wpAny_bind (wpAny_rule ?_); show wpAny _ _ (standAt iB.pos >>= _) _ _ s; exact wpAny_bind (wpAny_standAt (wpAny_bind (wpAny_mono h (fun j s' z => wpAny_pure ⟨rfl, z⟩) fun _ _ z => z))))
end
end Cr
namespace Cr
open PySem PySem.Spec PyProof.Rows L2 Evl
/-- the reading: D the new set; W the outer loop's words, W1 the inner one's -/
def tTwo (P : Program) (w : World) (wi : TI) (g : TG) (wi1 : TI) (g1 : TG) (te : TE) (vs vs1 : List Nat) : TE := fun σ H Q => wi σ H fun J H1 => ∀ D, H1 D = none → ∃ W : Nat → Nat → Hp → Prop, (∃ m, W 0 m (upd H1 D (TxtO P w D []))) ∧ ∀ i m H, W i m H →
  (J.stop i H ∧ Q (.ref D) H) ∨ (J.go i H ∧ ∃ Nx : Hp → Prop, (∀ H', Nx H' → ∃ m', m' < m ∧ W (i + 1) m' H') ∧ ∀ x H', J.yld i H x H' → g x (wipe σ vs) H' fun σ2 H2 => wipe σ2 vs = wipe σ vs ∧
    wi1 σ2 H2 fun J1 H4 => ∃ W1 : Nat → Nat → Hp → Prop, (∃ m, W1 0 m H4) ∧ ∀ j k H, W1 j k H →
      (J1.stop j H ∧ Nx H) ∨ (J1.go j H ∧ ∃ Nx1 : Hp → Prop, (∀ H', Nx1 H' → ∃ k', k' < k ∧ W1 (j + 1) k' H') ∧ ∀ x H', J1.yld j H x H' → g1 x (wipe σ2 vs1) H' fun σ3 H5 => wipe σ3 vs1 = wipe σ2 vs1 ∧
        te σ3 H5 fun y H7 => ∃ (k : Str) (l : List Str), y = .str k ∧ H7 D = some (TxtO P w D l) ∧ l.length + 1 < scanBound ∧ Nx1 (upd H7 D (TxtO P w D (k :: l)))))
section
variable {X : Cx}
theorem pe_two {elt tA iA tB iB : Expr} {sc : Scope} {own : List (PySem.Str × Nat)} {vs1 : List Nat} {pos : Pos} {wi wi1 : TI} {g g1 : TG} {te : TE} (hc : X.calm = true) (hN : X.N.Nodup) (hi : PI X tA iA wi) (ok : BlkOk X.N X.env.scope sc own) (hv : ∀ i ∈ vs1, i ∈ own.map (·.2))
    (hg : ∀ (s : Shared) (H : Hp) (C : Addr) (cl : List (PySem.Str × Addr)) (fp : List Addr), PG (X.blk s H sc (compEnvC sc cl C X.env) fp) tA g)
    (hi1 : ∀ (s : Shared) (H : Hp) (C : Addr) (cl : List (PySem.Str × Addr)) (fp : List Addr), PI (X.blk s H sc (compEnvC sc cl C X.env) fp) tB iB wi1)
    (hg1 : ∀ (s : Shared) (H : Hp) (C : Addr) (cl : List (PySem.Str × Addr)) (fp : List Addr), PG (X.blk s H sc (compEnvC sc cl C X.env) fp) tB g1)
    (he : ∀ (s : Shared) (H : Hp) (C : Addr) (cl : List (PySem.Str × Addr)) (fp : List Addr), PE (X.blk s H sc (compEnvC sc cl C X.env) fp) elt te)
    (hs : ∀ x, foldedSetIterable iA X.env x = pure x := by intro _; rfl) (hs1 : ∀ env x, foldedSetIterable iB env x = pure x := by intro _ _; rfl) :
    PE X (two elt tA iA tB iB sc pos) (tTwo X.prog X.w wi g wi1 g1 te (own.map (·.2)) vs1) := by
  refine ⟨fun pins s σ H Q I h => ?_⟩
  rw [PpSet.eval_SetComp]
  have free_ : ∀ y ∈ sc.names, y.2 = .free → ∃ c, X.env.cells.lookup y.1 = some c := fun y hy e => (ok.free y hy e).elim (fun k => I.ok.has _ (.inl k)) fun k => I.ok.has _ (.inr k)
  refine wpAny_comprehension_free (use := none) rfl hs (closure_ok free_) ok.kind (fun y hy e => by rw [ok.uniq y hy, e]) (thn (hi.run pins s σ H _ I h) fun xv s1 hx => thn hx fun itv s2 h2 => ?_)
  obtain ⟨a, fp, tn, J, H2, rfl, I2, T, st2, f2, q⟩ := h2
  refine PpSet.newSet_ok (newEnv_comp ?_)
  generalize hD : s2.heap.objs.size = D
  obtain ⟨W, ⟨m0, w0⟩, go0⟩ := q D (I2.hok.fresh (Nat.le_of_eq hD))
  -- the empty set is tracked
  generalize hs3 : ({ s2 with heap := s2.heap.push { cls := .type "set", dict := none, data := .set #[] 0 (.fresh 0 0 (!X.w.params.followText "set-order")) } } : Shared) = s3
  have keep2 : ∀ b o, s2.heap.get? b = some o → s3.heap.get? b = some o := fun b o e => by
    rw [← hs3]
    exact Heap.get?_push_of_some _ e
  have I3 : Inv X pins σ (upd H2 D (TxtO X.prog X.w D [])) s3 := by
    subst hD hs3
    exact I2.laid (t' := s2.toks) keep2 (Nat.le_refl _) (txtO_new txt_fresh)
  have f3 : ∀ b ∈ fp, FpOk X pins (upd H2 D (TxtO X.prog X.w D [])) b ∧ b < s3.heap.objs.size := fun b hb => by
    obtain ⟨o, e, _⟩ := T.obj _ _ st2 b hb
    have lt := Heap.lt_size e
    refine ⟨⟨?_, (f2 b hb).2⟩, Heap.lt_size (keep2 b o e)⟩
    rw [upd_ne (fun z => by rw [z, ← hD] at lt; exact Nat.lt_irrefl _ lt)]
    exact (f2 b hb).1
  have st3 : tn 0 s3.heap := T.keep _ _ _ st2 fun b _ o e => keep2 b o e
  have I4 := block_start I3 ok hN f3
  generalize hcl : cellsFrom (s3.heap.objs.size + 1) sc.names (cloFrom X.env.cells sc.names []) = cl at I4
  have pg := hg s3 (upd H2 D (TxtO X.prog X.w D [])) s3.heap.objs.size cl fp
  have pg1 := hg1 s3 (upd H2 D (TxtO X.prog X.w D [])) s3.heap.objs.size cl fp
  have pi1 := hi1 s3 (upd H2 D (TxtO X.prog X.w D [])) s3.heap.objs.size cl fp
  have pe := he s3 (upd H2 D (TxtO X.prog X.w D [])) s3.heap.objs.size cl fp
  show codeAny _ _ (.compStart (two elt tA iA tB iB sc pos) 0 (.ref a) (.ref D) (compEnvC sc cl s3.heap.objs.size X.env)) (compPost (model X.prog X.w) X.A X.xe none (EP X pins σ Q) (.ref D) s3.heap.objs.size) { s3 with heap := pushCells (s3.heap.push { cls := .type "dict", data := .dict #[] }) sc.names }
  have nfp : ∀ b ∈ fp, (upd H2 D (TxtO X.prog X.w D [])) b = none := fun b hb => (f3 b hb).1.1
  have st4 : tn 0 (pushCells (s3.heap.push { cls := .type "dict", data := .dict #[] }) sc.names) := T.keep _ _ _ st3 fun b _ o e => pushCells_keeps _ _ _ _ (Heap.get?_push_of_some _ e)
  have hcL : (compEnvC sc cl s3.heap.objs.size X.env).locals = s3.heap.objs.size := rfl
  generalize hH3 : upd H2 D (TxtO X.prog X.w D []) = H3 at I3 I4 pg pg1 pi1 pe w0 nfp f3
  generalize hce : compEnvC sc cl s3.heap.objs.size X.env = ce at I4 pg pg1 pi1 pe hcL ⊢
  have okF : ∀ {σ' : L2.St} {H' : Hp} {s' : Shared}, Inv (X.blk s3 H3 sc ce fp) [] σ' H' s' → (∀ b ∈ fp, H' b = none) → ∀ b ∈ fp, FpOk (X.blk s3 H3 sc ce fp) [] H' b := fun {σ' H' s'} I' hn b hb =>
    ⟨hn b hb, (I'.ok.exf b hb).1, I'.ok.exfs b hb, .inl hb, fun x c e => (I'.ok.exf b hb).2 x c e, fun p hp => absurd (show p ∈ ([] : List (Addr × Obj)) from hp) List.not_mem_nil⟩
  have all : codeAny (model X.prog X.w) X.A (.compLoop (two elt tA iA tB iB sc pos) 0 (.ref a) (.ref D) ce) (compPost (model X.prog X.w) X.A X.xe none (EP X pins σ Q) (.ref D) s3.heap.objs.size) { s3 with heap := pushCells (s3.heap.push { cls := .type "dict", data := .dict #[] }) sc.names } := by
    refine loopA (hs1 ce) (fun n s' => ∃ i H', Inv (X.blk s3 H3 sc ce fp) [] (wipe σ (own.map (·.2))) H' s' ∧ tn i s'.heap ∧ (∀ b ∈ fp, H' b = none) ∧ W i n H') (fun n s5 hZ => ?_) m0 ⟨0, H3, I4, st4, nfp, w0⟩
    obtain ⟨i, H5, I5, st5, n5, w5⟩ := hZ
    rcases go0 i n H5 w5 with ⟨stop, qq⟩ | ⟨goes, Nx, hNx, step⟩
    · -- the end
      refine thnF (T.done (X.blk s3 H3 sc ce fp) rfl rfl rfl hc i [] s5 _ H5 (fun _ _ => False) I5 (okF I5 n5) st5 stop) fun r s6 h6 => ?_
      obtain ⟨rfl, I6⟩ := h6
      have I7 : Inv X pins σ H5 s6 := I3.call' (ch := fp) I6.os I6.base I6.hok I6.bare fun b hb => ⟨(f3 b hb).1.2.2.2.1, (f3 b hb).1.2.1, (f3 b hb).1.2.2.2.2.1, (f3 b hb).1.2.2.2.2.2⟩
      obtain ⟨m, hn, _⟩ := I6.loc
      have hn' : s6.heap.Ns s3.heap.objs.size m := hcL ▸ hn
      have nC : H5 s3.heap.objs.size = none := by
        have z : H5 ce.locals = none := I6.free
        rwa [hcL] at z
      obtain ⟨c0, c1, c2, c3, c4, c5⟩ := I3.fpOk (Nat.le_refl _) nC
      exact ⟨m, hn', fun h'' sb => ⟨.ref D, H5, I7.turned (t' := s6.toks) (fun b o hb e => (sb.2 b hb).trans e) c0 c1 c3 c4 c5, rfl, qq⟩⟩
    · refine thnF (T.item (X.blk s3 H3 sc ce fp) rfl rfl rfl hc i [] s5 _ H5 (fun _ _ => False) I5 (okF I5 n5) st5 goes) fun r s6 h6 => ?_
      obtain ⟨u, rfl, h6⟩ := h6
      refine thnF h6 fun _ s7 h7 => ?_
      obtain ⟨x, H7, I7, r7, y7, st7, n7⟩ := h7
      refine thnF (pg.run _ s7 _ H7 x u _ (I7.pinned (okF I7 n7) (T.obj _ _ st7)) r7 (step x H7 y7)) fun _ s8 h8 => ?_
      obtain ⟨σ8, H8, I8, hw8, q8⟩ := h8
      -- the end of an outer turn
      have out : ∀ {σ9 : L2.St} {s' : Shared} {H' : Hp}, Inv (X.blk s3 H3 sc ce fp) ([] ++ pinsAt fp s7.heap) σ9 H' s' → (wipe σ (own.map (·.2))).length = σ9.length → (∀ (j : Nat) v, (wipe σ (own.map (·.2)))[j]? = some (some v) → σ9[j]? = some (some v)) → Nx H' →
          ∃ m, m < n ∧ ∃ i H', Inv (X.blk s3 H3 sc ce fp) [] (wipe σ (own.map (·.2))) H' s' ∧ tn i s'.heap ∧ (∀ b ∈ fp, H' b = none) ∧ W i m H' := fun {σ9 s' H'} I' ln hk nx => by
        obtain ⟨m', lt, w'⟩ := hNx H' nx
        have pn : ∀ b ∈ fp, ∀ o, s7.heap.get? b = some o → s'.heap.get? b = some o ∧ H' b = none := fun b hb o e => by
          have z := I'.pin (b, o) (List.mem_append_right _ (List.mem_append_right _ (mem_pinsAt hb e)))
          exact ⟨z.1, z.2.1⟩
        refine ⟨m', lt, i + 1, H', (I'.unpinned (pins := [])).weak ln hk, T.keep _ _ _ st7 fun b hb o e => (pn b hb o e).1, fun b hb => ?_, w'⟩
        obtain ⟨o, e, _⟩ := T.obj _ _ st7 b hb
        exact (pn b hb o e).2
      have ln8 : (wipe σ (own.map (·.2))).length = σ8.length := by rw [← hw8, wipe_length]
      have kp8 : ∀ (j : Nat) v, (wipe σ (own.map (·.2)))[j]? = some (some v) → (wipe σ8 vs1)[j]? = some (some v) := fun j v e => by
        rw [← hw8] at e
        obtain ⟨a1, a2⟩ := wipe_some e
        rw [wipe_out fun z => a2 (hv j z)]
        exact a1
      refine thnF (pi1.run _ s8 σ8 H8 _ I8 q8) fun xv1 s10 hx1 => thnF hx1 fun itv1 s11 h11 => ?_
      obtain ⟨a1, fp1, tn1, J1, H11, rfl, I11, T1, st11, f11, W1, ⟨m1, w1⟩, go1⟩ := h11
      have okF1 : ∀ {H' : Hp}, (∀ b ∈ fp1, H' b = none) → ∀ b ∈ fp1, FpOk (X.blk s3 H3 sc ce fp) ([] ++ pinsAt fp s7.heap) H' b := fun hn b hb => ⟨hn b hb, (f11 b hb).2⟩
      have inner : codeAny (model X.prog X.w) X.A (.compLoop (two elt tA iA tB iB sc pos) 1 (.ref a1) (.ref D) ce)
          (fun r s' => match r with | .ok _ => ∃ m, m < n ∧ ∃ i H', Inv (X.blk s3 H3 sc ce fp) [] (wipe σ (own.map (·.2))) H' s' ∧ tn i s'.heap ∧ (∀ b ∈ fp, H' b = none) ∧ W i m H' | .error _ => False) s11 := by
        refine loopB (fun k s' => ∃ j H', Inv (X.blk s3 H3 sc ce fp) ([] ++ pinsAt fp s7.heap) (wipe σ8 vs1) H' s' ∧ tn1 j s'.heap ∧ (∀ b ∈ fp1, H' b = none) ∧ W1 j k H') (fun k s12 hZ1 => ?_) m1 ⟨0, H11, I11.weak (wipe_length _ _) (fun j v e => (wipe_some e).1), st11, fun b hb => (f11 b hb).1, w1⟩
        obtain ⟨j, H12, I12, st12, n12, w12⟩ := hZ1
        rcases go1 j k H12 w12 with ⟨stop1, nx1⟩ | ⟨goes1, Nx1, hNx1, step1⟩
        · refine thnF (T1.done (X.blk s3 H3 sc ce fp) rfl rfl rfl hc j _ s12 (wipe σ8 vs1) H12 (fun _ _ => False) I12 (okF1 n12) st12 stop1) fun r s13 h13 => ?_
          obtain ⟨rfl, I13⟩ := h13
          exact out I13 (ln8.trans (wipe_length σ8 vs1).symm) kp8 nx1
        · refine thnF (T1.item (X.blk s3 H3 sc ce fp) rfl rfl rfl hc j _ s12 (wipe σ8 vs1) H12 (fun _ _ => False) I12 (okF1 n12) st12 goes1) fun r s13 h13 => ?_
          obtain ⟨u1, rfl, h13⟩ := h13
          refine thnF h13 fun _ s14 h14 => ?_
          obtain ⟨x1, H14, I14, r14, y14, st14, n14⟩ := h14
          refine thnF (pg1.run _ s14 (wipe σ8 vs1) H14 x1 u1 _ (I14.pinned (okF1 n14) (T1.obj _ _ st14)) r14 (step1 x1 H14 y14)) fun _ s15 h15 => ?_
          obtain ⟨σ15, H15, I15, hw15, q15⟩ := h15
          refine thnF (pe.run _ s15 σ15 H15 _ I15 q15) fun z s17 h17 => ?_
          obtain ⟨yv, H17, I17, r17, kk, ll, rfl, hD17, rm, nx⟩ := h17
          obtain ⟨tk, rfl⟩ := (show ∃ t, z = Value.str kk t from r17)
          refine addT_ok (X := X.blk s3 H3 sc ce fp) I17 hD17 rm fun s18 I18 => ?_
          obtain ⟨m', lt, w'⟩ := hNx1 _ nx
          have pn : ∀ b ∈ fp1, ∀ o, s14.heap.get? b = some o → s18.heap.get? b = some o ∧ (upd H17 D (TxtO X.prog X.w D (kk :: ll))) b = none := fun b hb o e => by
            have z := I18.pin (b, o) (List.mem_append_right _ (List.mem_append_right _ (mem_pinsAt hb e)))
            exact ⟨z.1, z.2.1⟩
          refine ⟨m', lt, j + 1, _, I18.unpinned.weak (by rw [← hw15, wipe_length]) (fun j v e => by rw [← hw15] at e; exact (wipe_some e).1), T1.keep _ _ _ st14 fun b hb o e => (pn b hb o e).1, fun b hb => ?_, w'⟩
          obtain ⟨o, e, _⟩ := T1.obj _ _ st14 b hb
          exact (pn b hb o e).2
      exact startB inner (T1.self X.A 0 _ _ _ st11 inner)
  exact PpSet.codeAny_compStart_set all (T.self X.A 0 _ _ _ st4 all)
end
end Cr
/-! what the top has left, gathered -/
namespace Cr
open PySem PySem.Spec PyProof.Rows L2 Evl
/-- a def of the top, as the head tells it -/
def DefAt (K : PySem.W.Frag) (x : Str) (st : Stmt) : Prop := ∃ (f : Addr) (od an : Option Addr) (sl : Array (Option Value)) (oc kV dc pm cd ct : Value),
  PySem.W.nsIn K mainGlobals x = some (some (.ref f)) ∧ K.lookup f = some ⟨oc, od, .func (PySem.W.fnOf x x (defArgs st) (defBody st) (defScope st) .none kV dc pm an cd ct), sl⟩ ∧ PySem.W.codeIn K cd x = true ∧ PySem.W.keepIn K (.ref f) = true
theorem defAt {K : PySem.W.Frag} {x : Str} {st : Stmt} {f : Addr} {od an : Option Addr} {sl : Array (Option Value)} {oc kV dc pm cd ct : Value} (a : PySem.W.nsIn K mainGlobals x = some (some (.ref f)))
    (l : K.lookup f = some ⟨oc, od, .func (PySem.W.fnOf x x (defArgs st) (defBody st) (defScope st) .none kV dc pm an cd ct), sl⟩) (c : PySem.W.codeIn K cd x = true) (k : PySem.W.keepIn K (.ref f) = true) : DefAt K x st :=
  ⟨f, od, an, sl, oc, kV, dc, pm, cd, ct, a, l, c, k⟩
/-- the binding of so many parameters -/
def BindsAll (x : Str) (st : Stmt) (ps : List Str) : Prop := ∀ (kV doc pm : Value) (an : Option Addr) (cdv ct : Value) (us : List Value), us.length = ps.length → bindArgs (PySem.W.fnOf x x (defArgs st) (defBody st) (defScope st) .none kV doc pm an cdv ct) ⟨us, []⟩ = pure (ps.zip us)
theorem has_mk {P : Program} {w : World} {K : PySem.W.Frag} {mg : Str → Option Value} {base h : Heap} {x : Str} {st : Stmt} {ps : List Str} {sp : Sp} {k : Nat} (X : K.In h) (G : h.Ns mainGlobals mg) (D : DefAt K x st) (hb : BindsAll x st ps)
    (ok : ∀ f fd, Fun K x x st f fd → FnG P w K mg base CX0 k f fd ps sp) : Has P w K mg base k x ps sp := by
  obtain ⟨f, od, an, sl, oc, kV, dc, pm, cd, ct, a, l, c, kp⟩ := D
  have F := fun_mk (st := st) l c kp
  exact ⟨⟨f, _, ok f _ F, F.binds hb, kp, PySem.W.mg_of X G a⟩⟩
theorem hasO_mk {P : Program} {w : World} {K : PySem.W.Frag} {mg : Str → Option Value} {base h : Heap} {x : Str} {st : Stmt} {ps : List Str} {sp : Sp} {k : Nat} (X : K.In h) (G : h.Ns mainGlobals mg) (D : DefAt K x st) (hb : BindsAll x st ps)
    (ok : ∀ f fd, Fun K x x st f fd → FnOk P w K mg base CX0 k f fd ps sp) : HasO P w K mg base k x ps sp := by
  obtain ⟨f, od, an, sl, oc, kV, dc, pm, cd, ct, a, l, c, kp⟩ := D
  have F := fun_mk (st := st) l c kp
  exact ⟨⟨f, _, ok f _ F, F.binds hb, kp, PySem.W.mg_of X G a⟩⟩
theorem hasE_mk {P : Program} {w : World} {K : PySem.W.Frag} {mg : Str → Option Value} {base h : Heap} {x : Str} {st : Stmt} {ps : List Str} {sp : Sp} {k : Nat} (X : K.In h) (G : h.Ns mainGlobals mg) (D : DefAt K x st) (hb : BindsAll x st ps)
    (ok : ∀ f fd, Fun K x x st f fd → FnOk P w K mg base (L2.CX P w) k f fd ps sp) : HasE P w K mg base k x ps sp := by
  obtain ⟨f, od, an, sl, oc, kV, dc, pm, cd, ct, a, l, c, kp⟩ := D
  have F := fun_mk (st := st) l c kp
  exact ⟨⟨f, _, ok f _ F, F.binds hb, kp, PySem.W.mg_of X G a⟩⟩
theorem Has.up {P : Program} {w : World} {K : PySem.W.Frag} {mg : Str → Option Value} {base : Heap} {x : Str} {ps : List Str} {sp : Sp} {j k : Nat} (h : Has P w K mg base j x ps sp) (le : j ≤ k) : Has P w K mg base k x ps sp := by
  obtain ⟨f, fd, G, b, kp, g⟩ := h.ex
  exact ⟨⟨f, fd, G.up le, b, kp, g⟩⟩
theorem HasC.up {P : Program} {w : World} {K : PySem.W.Frag} {mg : Str → Option Value} {base : Heap} {C : Addr} {j k : Nat} (h : HasC P w K mg base j C) (le : j ≤ k) : HasC P w K mg base k C := by
  obtain ⟨f, fd, G, b, b2, kp, g⟩ := h.ex
  exact ⟨⟨f, fd, fnUp G le, b, b2, kp, g⟩⟩
/-! ### tuples and the table of the top -/
theorem ktupV {K : PySem.W.Frag} {a : Addr} {xs : List Str} {its : List Value} {dd : Option Addr} {sl : Array (Option Value)} {n : Nat} (l : K.lookup a = some ⟨.type "tuple", dd, .seq its.toArray n, sl⟩) (v : Vals (xs.map V.str) its) (hz : xs.length ≤ 10) : KTup K a (xs.map V.str) := by
  refine ⟨_, _, _, l, rfl, rfl, ?_, by simpa using v⟩
  have := v.length
  rw [List.length_map] at this
  rw [List.size_toArray, ← this]
  exact sz_of (by omega)
theorem ktup0 {K : PySem.W.Frag} {a : Addr} {dd : Option Addr} {sl : Array (Option Value)} {n : Nat} (l : K.lookup a = some ⟨.type "tuple", dd, .seq #[] n, sl⟩) : KTup K a (([] : List Str).map V.str) := ktupV (xs := ([] : List Str)) l .nil (by show 0 ≤ 10; decide)
theorem ktup1 {K : PySem.W.Frag} {a : Addr} {x1 : Str} {t1 : Tok} {dd : Option Addr} {sl : Array (Option Value)} {n : Nat} (l : K.lookup a = some ⟨.type "tuple", dd, .seq #[.str x1 t1] n, sl⟩) : KTup K a (([x1] : List Str).map V.str) := ktupV (xs := ([x1] : List Str)) l (.cons ⟨t1, rfl⟩ .nil) (by show 1 ≤ 10; decide)
theorem ktup2 {K : PySem.W.Frag} {a : Addr} {x1 x2 : Str} {t1 t2 : Tok} {dd : Option Addr} {sl : Array (Option Value)} {n : Nat} (l : K.lookup a = some ⟨.type "tuple", dd, .seq #[.str x1 t1, .str x2 t2] n, sl⟩) : KTup K a (([x1, x2] : List Str).map V.str) := ktupV (xs := ([x1, x2] : List Str)) l (.cons ⟨t1, rfl⟩ (.cons ⟨t2, rfl⟩ .nil)) (by show 2 ≤ 10; decide)
theorem ktup3 {K : PySem.W.Frag} {a : Addr} {x1 x2 x3 : Str} {t1 t2 t3 : Tok} {dd : Option Addr} {sl : Array (Option Value)} {n : Nat} (l : K.lookup a = some ⟨.type "tuple", dd, .seq #[.str x1 t1, .str x2 t2, .str x3 t3] n, sl⟩) : KTup K a (([x1, x2, x3] : List Str).map V.str) := ktupV (xs := ([x1, x2, x3] : List Str)) l (.cons ⟨t1, rfl⟩ (.cons ⟨t2, rfl⟩ (.cons ⟨t3, rfl⟩ .nil))) (by show 3 ≤ 10; decide)
theorem ktup4 {K : PySem.W.Frag} {a : Addr} {x1 x2 x3 x4 : Str} {t1 t2 t3 t4 : Tok} {dd : Option Addr} {sl : Array (Option Value)} {n : Nat} (l : K.lookup a = some ⟨.type "tuple", dd, .seq #[.str x1 t1, .str x2 t2, .str x3 t3, .str x4 t4] n, sl⟩) : KTup K a (([x1, x2, x3, x4] : List Str).map V.str) := ktupV (xs := ([x1, x2, x3, x4] : List Str)) l (.cons ⟨t1, rfl⟩ (.cons ⟨t2, rfl⟩ (.cons ⟨t3, rfl⟩ (.cons ⟨t4, rfl⟩ .nil)))) (by show 4 ≤ 10; decide)
theorem nsIn_dict {K : PySem.W.Frag} {d : Addr} {oc : Value} {od : Option Addr} {es : List DictEntry} {n : Nat} {sl : Array (Option Value)} {z : Str} (l : K.lookup d = some ⟨oc, od, .dict es.toArray n, sl⟩) (any : es.any (·.refKey) = false) :
    PySem.W.nsIn K d z = some ((es.find? (·.key.isStr z)).map (·.val)) := by
  unfold PySem.W.nsIn
  rw [l]
  show (match es.find? (·.key.isStr z) with | some e => some (some e.val) | none => if es.any (·.refKey) = true then none else some none) = _
  rw [any]
  cases es.find? (·.key.isStr z) <;> rfl
theorem find_str {z k : Str} {h : Int} {t : Tok} {v : Value} {r : List DictEntry} : (⟨h, .str k t, v⟩ :: r : List DictEntry).find? (·.key.isStr z) = if z = k then some ⟨h, .str k t, v⟩ else r.find? (·.key.isStr z) := by
  rw [List.find?_cons]
  by_cases e : z = k
  · subst e
    rw [if_pos rfl, show (Value.str z t).isStr z = true by simp [Value.isStr]]
  · rw [if_neg e, show (Value.str k t).isStr z = false by simp [Value.isStr]; exact fun q => e q.symm]
theorem shapes_mk {K : PySem.W.Frag} {w : World} {dS : Addr} {n : Nat} {h1 h2 h3 h4 h5 h6 h7 h8 : Int} {t1 t2 t3 t4 t5 t6 t7 t8 : Tok} {a1 a2 a3 a4 a5 a6 a7 a8 : Addr}
    (l : K.lookup dS = some ⟨.type "dict", none, .dict #[⟨h1, .str "set" t1, .ref a1⟩, ⟨h2, .str "add" t2, .ref a2⟩, ⟨h3, .str "skip" t3, .ref a3⟩, ⟨h4, .str "export" t4, .ref a4⟩, ⟨h5, .str "read" t5, .ref a5⟩, ⟨h6, .str "need" t6, .ref a6⟩, ⟨h7, .str "try" t7, .ref a7⟩, ⟨h8, .str "fail" t8, .ref a8⟩] n, #[]⟩)
    (e1 : h1 = PyData.keyHash w.params "set") (e2 : h2 = PyData.keyHash w.params "add") (e3 : h3 = PyData.keyHash w.params "skip") (e4 : h4 = PyData.keyHash w.params "export") (e5 : h5 = PyData.keyHash w.params "read") (e6 : h6 = PyData.keyHash w.params "need") (e7 : h7 = PyData.keyHash w.params "try") (e8 : h8 = PyData.keyHash w.params "fail")
    (low : (dS == sysModules) = false)
    (k1 : KTup K a1 ((["variable", "integer"] : List Str).map V.str)) (k2 : KTup K a2 ((["variable", "variable"] : List Str).map V.str)) (k3 : KTup K a3 ((["variable", "length"] : List Str).map V.str)) (k4 : KTup K a4 ((["name", "variable"] : List Str).map V.str))
    (k5 : KTup K a5 ((["variable", "module", "name"] : List Str).map V.str)) (k6 : KTup K a6 ((["module"] : List Str).map V.str)) (k7 : KTup K a7 ((["module", "variable"] : List Str).map V.str)) (k8 : KTup K a8 (([] : List Str).map V.str)) :
    ∃ es, Shapes K w dS es n := by
  refine ⟨_, ⟨l, ?_, low⟩, fun z hz => ?_, fun z ks hz => ?_⟩
  · exact ⟨⟨_, _, rfl, e1⟩, ⟨_, _, rfl, e2⟩, ⟨_, _, rfl, e3⟩, ⟨_, _, rfl, e4⟩, ⟨_, _, rfl, e5⟩, ⟨_, _, rfl, e6⟩, ⟨_, _, rfl, e7⟩, ⟨_, _, rfl, e8⟩, trivial⟩
  all_goals
    have ns := nsIn_dict (z := z) l (by rfl)
    rw [find_str, find_str, find_str, find_str, find_str, find_str, find_str, find_str] at ns
    rw [ns]
    clear ns
    unfold shapeOf at hz
  · by_cases c1 : z = "set"
    · rw [if_pos c1] at hz; cases hz
    by_cases c2 : z = "add"
    · rw [if_neg c1, if_pos c2] at hz; cases hz
    by_cases c3 : z = "skip"
    · rw [if_neg c1, if_neg c2, if_pos c3] at hz; cases hz
    by_cases c4 : z = "export"
    · rw [if_neg c1, if_neg c2, if_neg c3, if_pos c4] at hz; cases hz
    by_cases c5 : z = "read"
    · rw [if_neg c1, if_neg c2, if_neg c3, if_neg c4, if_pos c5] at hz; cases hz
    by_cases c6 : z = "need"
    · rw [if_neg c1, if_neg c2, if_neg c3, if_neg c4, if_neg c5, if_pos c6] at hz; cases hz
    by_cases c7 : z = "try"
    · rw [if_neg c1, if_neg c2, if_neg c3, if_neg c4, if_neg c5, if_neg c6, if_pos c7] at hz; cases hz
    by_cases c8 : z = "fail"
    · rw [if_neg c1, if_neg c2, if_neg c3, if_neg c4, if_neg c5, if_neg c6, if_neg c7, if_pos c8] at hz; cases hz
    rw [if_neg c1, if_neg c2, if_neg c3, if_neg c4, if_neg c5, if_neg c6, if_neg c7, if_neg c8]
    rfl
  · by_cases c1 : z = "set"
    · rw [if_pos c1] at hz ⊢; cases hz; exact ⟨a1, rfl, k1⟩
    by_cases c2 : z = "add"
    · rw [if_neg c1, if_pos c2] at hz ⊢; cases hz; exact ⟨a2, rfl, k2⟩
    by_cases c3 : z = "skip"
    · rw [if_neg c1, if_neg c2, if_pos c3] at hz ⊢; cases hz; exact ⟨a3, rfl, k3⟩
    by_cases c4 : z = "export"
    · rw [if_neg c1, if_neg c2, if_neg c3, if_pos c4] at hz ⊢; cases hz; exact ⟨a4, rfl, k4⟩
    by_cases c5 : z = "read"
    · rw [if_neg c1, if_neg c2, if_neg c3, if_neg c4, if_pos c5] at hz ⊢; cases hz; exact ⟨a5, rfl, k5⟩
    by_cases c6 : z = "need"
    · rw [if_neg c1, if_neg c2, if_neg c3, if_neg c4, if_neg c5, if_pos c6] at hz ⊢; cases hz; exact ⟨a6, rfl, k6⟩
    by_cases c7 : z = "try"
    · rw [if_neg c1, if_neg c2, if_neg c3, if_neg c4, if_neg c5, if_neg c6, if_pos c7] at hz ⊢; cases hz; exact ⟨a7, rfl, k7⟩
    by_cases c8 : z = "fail"
    · rw [if_neg c1, if_neg c2, if_neg c3, if_neg c4, if_neg c5, if_neg c6, if_neg c7, if_pos c8] at hz ⊢; cases hz; exact ⟨a8, rfl, k8⟩
    rw [if_neg c1, if_neg c2, if_neg c3, if_neg c4, if_neg c5, if_neg c6, if_neg c7, if_neg c8] at hz
    cases hz

/-- a def with is_main by its name alone, False where it lacks -/
def DefKw (K : PySem.W.Frag) (x : Str) (st : Stmt) : Prop := ∃ (f D : Addr) (od an : Option Addr) (sl : Array (Option Value)) (oc dc pm cd ct : Value),
  PySem.W.nsIn K mainGlobals x = some (some (.ref f)) ∧ K.lookup f = some ⟨oc, od, .func (PySem.W.fnOf x x (defArgs st) (defBody st) (defScope st) .none (.ref D) dc pm an cd ct), sl⟩ ∧ PySem.W.codeIn K cd x = true ∧ PySem.W.keepIn K (.ref f) = true ∧ PySem.W.nsIn K D "is_main" = some (some (.bool false))
theorem defKw {K : PySem.W.Frag} {x : Str} {st : Stmt} {f D : Addr} {od an : Option Addr} {sl : Array (Option Value)} {oc dc pm cd ct : Value} (a : PySem.W.nsIn K mainGlobals x = some (some (.ref f)))
    (l : K.lookup f = some ⟨oc, od, .func (PySem.W.fnOf x x (defArgs st) (defBody st) (defScope st) .none (.ref D) dc pm an cd ct), sl⟩) (c : PySem.W.codeIn K cd x = true) (k : PySem.W.keepIn K (.ref f) = true) (m : PySem.W.nsIn K D "is_main" = some (some (.bool false))) : DefKw K x st :=
  ⟨f, D, od, an, sl, oc, dc, pm, cd, ct, a, l, c, k, m⟩
/-! ### methods -/
/-! ### own errors -/
def ErrK (P : Program) (K : PySem.W.Frag) (C : Addr) (b : XB) (qual fld : Str) (st : Stmt) : Prop := ∃ (fI cda cc : Addr) (oc : Value) (od an : Option Addr) (kV doc pm ct : Value) (osl : Array (Option Value)),
  K.lookup fI = some ⟨oc, od, .func (PySem.W.ksFn "__init__" qual (defArgs st) (defBody st) (defScope st) .none kV doc pm an (.ref cda) ct cc), osl⟩ ∧ PySem.W.codeIn K (.ref cda) qual = true ∧ SupG P K C cda cc b ∧
  PySem.W.findIn K (.ref C) "__init__" = some (some (.ref fI)) ∧ PySem.W.typeIn K (.ref fI) = some (.type "function") ∧ PySem.W.findIn K (.ref C) fld = some none
theorem errK {P : Program} {K : PySem.W.Frag} {C fI cda cc : Addr} {b : XB} {qual fld : Str} {st : Stmt} {oc : Value} {od an : Option Addr} {kV doc pm ct : Value} {osl : Array (Option Value)} (i : PySem.W.findIn K (.ref C) "__init__" = some (some (.ref fI)))
    (l : K.lookup fI = some ⟨oc, od, .func (PySem.W.ksFn "__init__" qual (defArgs st) (defBody st) (defScope st) .none kV doc pm an (.ref cda) ct cc), osl⟩) (c : PySem.W.codeIn K (.ref cda) qual = true) (s : SupG P K C cda cc b)
    (t : PySem.W.typeIn K (.ref fI) = some (.type "function")) (p : PySem.W.findIn K (.ref C) fld = some none) : ErrK P K C b qual fld st := ⟨fI, cda, cc, oc, od, an, kV, doc, pm, ct, osl, l, c, s, i, t, p⟩
theorem oexG_mk {K : PySem.W.Frag} {C : Addr} {b : XB} {nm q : Str} {N : Addr} {bs bm : List Value} {sn : List Str} {sub : List Value} {ab : Bool} {col : Option Bool} {dd : Option Addr} {k0 k1 k2 k3 k5 : Option Value} (ok : b.Ok)
    (l : K.lookup C = some (excClassObj nm q C N bs bm true sn sub ab col dd k0 k1 k2 k3 k5 b.nw)) (m : downTo b.tl bm = true) (sa : PySem.W.findIn K (.ref C) "__setattr__" = some (some (.builtin "object.__setattr__")))
    (ex : PySem.W.subIn K (.ref C) (.type "BaseException") = some true) (ty : PySem.W.typeIn K (.ref C) = some (.type "type")) (kC : PySem.W.keepIn K (.ref C) = true) : OexG K C b :=
  ⟨ok, ⟨nm, q, N, bs, bm, sn, sub, ab, col, dd, k0, k1, k2, k3, k5, l, m⟩, sa, ex, ty, kC⟩
theorem supG_mk {P : Program} {K : PySem.W.Frag} {C cda cc : Addr} {b : XB} {ccl : Value} {cdd : Option Addr} {cvs : Array Value} {ccs : Array (Option Value)} {file : Str} {tf : Tok} {cl : Value} {cld : Option Addr} {csl : Array (Option Value)} (o : OexG K C b)
    (a : K.lookup cda = some ⟨ccl, cdd, .fields cvs, ccs⟩) (f2 : cvs[2]? = some (.str file tf)) (c : ((P.main.file : Str) == file) = true) (d : K.lookup cc = some ⟨cl, cld, .cell (some (.ref C)), csl⟩) (e : PySem.W.mroIn K C (.ref C) = some true)
    (f : PySem.W.nsIn K cStatics "thirdparty.any" = some none) (g : PySem.W.ks_superIn K C C "__init__" = some (some (.builtin b.ini))) (h : PySem.W.subIn K (.ref C) (.type b.B) = some true) (i : (P.main.scope.names.lookup ("super" : Str)).isSome = false) : SupG P K C cda cc b :=
  ⟨o, ⟨ccl, cdd, cvs, ccs, file, tf, a, f2, c⟩, ⟨cl, cld, csl, d⟩, e, f, g, h, i⟩
theorem errAt_of {P : Program} {K : PySem.W.Frag} {mg : Str → Option Value} {h : Heap} {C : Addr} {b : XB} {cn qual fld : Str} {st : Stmt} (X : K.In h) (G : h.Ns mainGlobals mg) (c : PySem.W.nsIn K mainGlobals cn = some (some (.ref C))) (e : ErrK P K C b qual fld st) : ∃ fI fd, ErrAt P K mg C fI fd b cn qual fld st := by
  obtain ⟨fI, cda, cc, oc, od, an, kV, doc, pm, ct, osl, l, cd, s, i, t, p⟩ := e
  exact ⟨fI, _, ⟨cda, cc, oc, od, an, kV, doc, pm, ct, osl, rfl, l, cd, s⟩, i, t, p, PySem.W.mg_of X G c⟩
end Cr
namespace Cr
open PySem PySem.Spec PyProof.Rows L2 Evl
abbrev sMods : Stmt := topS 22
abbrev nMods : List Str := ["program", "step", "module"]
theorem scMods : FnScope nMods ["program"] (defScope sMods) := ⟨rfl, rfl, rfl, by decide +kernel, rfl, by decide +kernel, by decide +kernel⟩
section
variable {P : Program} {w : World} {K : PySem.W.Frag} {mg : Str → Option Value} {base : Heap}
theorem ok_mods {f C : Addr} {fd : FuncData} {k : Nat} (F : Fun K "modules_in" "modules_in" sMods f fd) (B : Blt mg) (h1 : HasC P w K mg base k C) (h2 : Has P w K mg base k "step_modules" ["step"] spSM) :
    FnG P w K mg base (L2.CX P w) (k + 1) f fd ["program"] (spMods C) := by
  obtain ⟨f1, d1, G1, ⟨ds1, vd1, b1⟩, _, k1, g1⟩ := h1.ex
  replace G1 := FnG.ofOk G1
  obtain ⟨f2, d2, G2, b2, k2, g2⟩ := h2.ex
  refine okGX F scMods (fun vs H Q E h => by obtain ⟨_, _, rfl, _⟩ := h; rfl) (fun cdv A outer s H vs Q E hq hr h => ?_)
  obtain ⟨v, d, rfl, hd, hs, q, qe⟩ := h
  refine ⟨_, pss_cons (ps_expr (callG (E := E) G1 hq hr (by rfl) g1 k1 b1 vd1 (passes_call (takes_of rfl rfl rfl rfl) fun _ _ _ _ h => h) (pa_cons (pv 0) pa_nil)))
    (pss_one (ps_ret (pe_callB (cr_sortT rfl) (by rfl) B.sorted bSorted (pa_cons (pe_two (own := [("step", 1), ("module", 2)]) (vs1 := [2]) (g := gName 1) (g1 := gName 2) (wi1 := iList K (tCall spSM [] E0 (tCons (tVar 1) tNil))) (te := tVar 2) rfl scMods.nd (pi_list (pv 0))
      (blkOk_by (own := [("step", 1), ("module", 2)]) (N := nMods) (sc := defScope sMods) (by decide +kernel)) (by decide) (fun _ _ _ _ _ => pg_name (i := 1) scMods.nd rfl (Or.inl rfl)) (fun _ _ _ _ _ => by exact pi_list (callG G2 hq hr (by rfl) g2 k2 b2 .nil pass0 (pa_cons (pv 1) pa_nil)))
      (fun _ _ _ _ _ => pg_name (i := 2) scMods.nd rfl (Or.inl rfl)) (fun _ _ _ _ _ => pv 2)) pa_nil)))), ?_⟩
  refine ⟨v, rfl, v, d, false, rfl, hd, hs, fun hn H1 e1 => ?_, qe⟩
  obtain ⟨ds, rfl, h30, hst⟩ := due_none hn
  obtain ⟨a, xs, ds', rfl, e', hx, hds⟩ := list_form hd rfl
  cases e'
  have lx := hds.length
  have hx1 := e1 _ _ hx
  have wk := walk_list (K := K) (a := a) (xs := xs)
  refine ⟨.ref a, rfl, a, rfl, ⟨_, sq_of hx1⟩, fun D zD => ?_⟩
  refine ⟨fun i m H' => m = xs.length - i ∧ i ≤ xs.length ∧ ∃ l : List Str, H' D = some (TxtO P w D l) ∧ l.length ≤ i ∧ (∀ x, x ∈ l ↔ x ∈ (ds.take i).filterMap modO) ∧ Ex H1 H', ⟨xs.length, rfl, Nat.zero_le _, [], upd_same, Nat.le_refl _, fun x => by simp, Ex.new zD⟩, ?_⟩
  rintro i m H2 ⟨rfl, hi, l, hl, ll, ml, e2⟩
  have hx2 := e2 _ _ hx1
  by_cases hlt : i < xs.length
  · refine .inr ⟨wk.goes i H2 hlt (sq_of hx2), fun H' => ∃ l : List Str, H' D = some (TxtO P w D l) ∧ l.length ≤ i + 1 ∧ (∀ x, x ∈ l ↔ x ∈ (ds.take (i + 1)).filterMap modO) ∧ Ex H1 H', fun H' z => ⟨xs.length - (i + 1), by omega, rfl, hlt, z⟩, fun x H3 hy => ?_⟩
    obtain ⟨rfl, hxi⟩ := wk.yields i H2 x H3 hlt (sq_of hx2) hy
    obtain ⟨dy, hdy, hDy⟩ := DtAll.get hds hxi
    have st := hst i dy hdy
    have et : ds.take (i + 1) = ds.take i ++ [dy] := by
      have hi' : i < ds.length := by omega
      rw [← List.take_append_getElem hi']
      congr 2
      have := List.getElem?_eq_getElem hi'
      rw [hdy] at this
      exact (Option.some.inj this).symm
    refine ⟨rfl, ?_⟩
    refine ⟨x, rfl, x, dy, rfl, Dt.ex (e1.trans e2) hDy, smAll_get (sm_all hs) hdy, st, fun T H4 zT e4 hT => ?_⟩
    have TD : T ≠ D := fun e => by rw [e, hl] at zT; cases zT
    refine ⟨T, rfl, ⟨_, sq_of hT⟩, ?_⟩
    have wk1 := walk_list (K := K) (a := T) (xs := (modO dy).toList.map V.str)
    have l1 : (modO dy).toList.length ≤ 1 := by cases modO dy <;> simp
    refine ⟨fun j n H' => n = (modO dy).toList.length - j ∧ j ≤ (modO dy).toList.length ∧ ∃ l : List Str, H' D = some (TxtO P w D l) ∧ l.length ≤ i + j ∧ (∀ x, x ∈ l ↔ x ∈ (ds.take i).filterMap modO ∨ x ∈ (modO dy).toList.take j) ∧ H' T = some (.lst ((modO dy).toList.map V.str)) ∧ Ex H1 H',
      ⟨_, rfl, Nat.zero_le _, l, e4 _ _ hl, ll, fun x => by rw [ml x]; simp, hT, e2.trans e4⟩, ?_⟩
    rintro j n H5 ⟨rfl, hj, l', hl', ll', ml', hT', e5⟩
    by_cases hjl : j < (modO dy).toList.length
    · refine .inr ⟨wk1.goes j H5 (by rw [List.length_map]; exact hjl) (sq_of hT'), fun H' => ∃ l : List Str, H' D = some (TxtO P w D l) ∧ l.length ≤ i + (j + 1) ∧ (∀ x, x ∈ l ↔ x ∈ (ds.take i).filterMap modO ∨ x ∈ (modO dy).toList.take (j + 1)) ∧ H' T = some (.lst ((modO dy).toList.map V.str)) ∧ Ex H1 H',
        fun H' z => ⟨_, by omega, rfl, hjl, z⟩, fun y H6 hy1 => ?_⟩
      obtain ⟨rfl, hyj⟩ := wk1.yields j H5 y H6 (by rw [List.length_map]; exact hjl) (sq_of hT') hy1
      rw [List.getElem?_map, List.getElem?_eq_getElem hjl] at hyj
      have ey : y = .str (modO dy).toList[j] := (Option.some.inj hyj).symm
      subst ey
      refine ⟨rfl, .str (modO dy).toList[j], rfl, _, l', rfl, hl', by unfold scanBound; omega, (modO dy).toList[j] :: l', upd_same, by rw [List.length_cons]; omega, fun x => ?_, by rw [upd_ne TD]; exact hT', Ex.mut e5 zD⟩
      rw [List.mem_cons, ml' x, ← List.take_append_getElem hjl, List.mem_append, List.mem_singleton]
      constructor
      · rintro (h | h | h)
        · exact .inr (.inr h)
        · exact .inl h
        · exact .inr (.inl h)
      · rintro (h | h | h)
        · exact .inr (.inl h)
        · exact .inr (.inr h)
        · exact .inl h
    · have ej : j = (modO dy).toList.length := by omega
      refine .inl ⟨by
        have z := wk1.stops H5 (sq_of hT')
        rw [List.length_map] at z
        rw [ej]
        exact z, l', hl', by omega, fun x => ?_, e5⟩
      rw [ml' x, ej, List.take_length, et, List.filterMap_append, List.mem_append]
      refine or_congr Iff.rfl ?_
      cases hm : modO dy with
      | none => simp [hm]
      | some m => simp [hm]
  · have ei : i = xs.length := by omega
    refine .inl ⟨by rw [ei]; exact wk.stops H2 (sq_of hx2), ?_⟩
    refine ⟨D, l, rfl, hl, by omega, fun ss p nd so mem zp => ?_⟩
    refine q hn p ss _ (fresh_back (e1.trans e2) zp) ((e1.trans e2).trans (Ex.new zp)) upd_same nd so fun x => ?_
    rw [mem, ml x, ei, lx, List.take_length]
    exact Iff.rfl
theorem mods_mk {h : Heap} {C dS : Addr} {n : Nat} (X : K.In h) (G : h.Ns mainGlobals mg) (B : Blt mg) (v6 : PySem.W.nsIn K mainGlobals "SHAPES" = some (some (.ref dS))) (S' : ∃ es, Shapes K w dS es n) (d19 : DefAt K "step_modules" sSM) (d20 : DefAt K "modules_in" sMods) :
    ∀ base : Heap, HasC P w K mg base 6 C → HasX P w K mg base 7 "modules_in" ["program"] (spMods C) := by
  intro base hC
  obtain ⟨es, S⟩ := S'
  have gS := PySem.W.mg_of X G v6
  have hS : Has P w K mg base 1 "step_modules" ["step"] spSM := has_mk X G d19 (fun _ _ _ _ _ _ us hl => match us, hl with | [_], _ => rfl) fun f fd F => FnG.ofOk (ok_sm F B gS S)
  obtain ⟨f, od, an, sl, oc, kV, dc, pm, cd, ct, a, l, c, kp⟩ := d20
  have F := fun_mk (st := sMods) l c kp
  exact ⟨⟨f, _, ok_mods F B hC (hS.up (by decide)), F.binds (fun _ _ _ _ _ _ us hl => match us, hl with | [_], _ => rfl), kp, PySem.W.mg_of X G a⟩⟩
end
end Cr
namespace Cr
open PySem PySem.Spec PyProof.Rows L2 Evl
theorem HasX.up {P : Program} {w : World} {K : PySem.W.Frag} {mg : Str → Option Value} {base : Heap} {x : Str} {ps : List Str} {sp : Sp} {j k : Nat} (h : HasX P w K mg base j x ps sp) (le : j ≤ k) : HasX P w K mg base k x ps sp := by
  obtain ⟨f, fd, G, b, kp, g⟩ := h.ex
  exact ⟨⟨f, fd, G.up le, b, kp, g⟩⟩
theorem all_mk {P : Program} {w : World} {K : PySem.W.Frag} {h : Heap} {mg : Str → Option Value} {fa aV dS C L C1 C2 C3 : Addr} {tL tM : Tok} {n : Nat} (X : K.In h) (G : h.Ns mainGlobals mg) (hfa : mg "law" = some (.ref fa)) (B : Blt mg)
    (v1 : PySem.W.nsIn K mainGlobals "VARIABLES" = some (some (.ref aV))) (v2 : KTup K aV (vars4.map V.str)) (v3 : PySem.W.nsIn K mainGlobals "LONGEST_NAME" = some (some (.int 8 tL)))
    (v4 : PySem.W.nsIn K mainGlobals "MOST_STEPS" = some (some (.int 30 tM))) (v6 : PySem.W.nsIn K mainGlobals "SHAPES" = some (some (.ref dS))) (S' : ∃ es, Shapes K w dS es n)
    (c0 : PySem.W.nsIn K mainGlobals "InvalidProgram" = some (some (.ref C))) (c1 : PySem.W.nsIn K mainGlobals "LoaderError" = some (some (.ref L))) (c2 : PySem.W.nsIn K mainGlobals "InvalidLibrary" = some (some (.ref C1))) (c3 : PySem.W.nsIn K mainGlobals "InvalidMains" = some (some (.ref C2))) (c4 : PySem.W.nsIn K mainGlobals "InvalidText" = some (some (.ref C3)))
    (cI : ErrK P K C xbV "InvalidProgram.__init__" "position" sInitP) (cE : ExcC K C) (cX : XfC K C) (cM : PySem.W.exmOne K (.ref C) (.ref L) = some true) (i1 : PySem.W.kitOne K (.ref C) (.ref C1) = some false) (i2 : PySem.W.kitOne K (.ref C) (.ref C2) = some false) (i3 : PySem.W.kitOne K (.ref C) (.ref C3) = some false)
    (iV : PySem.W.kitOne K (.ref C) (.type "ValueError") = some true) (iC : PySem.W.kitOne K (.ref C) (.ref C) = some true)
    (d9 : DefAt K "is_integer" sIsInteger) (d10 : DefAt K "is_name" sIsName) (d11 : DefAt K "is_variable" sIsVariable) (d15 : DefAt K "is_item" sIsItem) (d16 : DefAt K "is_step" sIsStep) (d17 : DefAt K "is_step_before" sBefore) (dSM : DefAt K "step_modules" sSM) (dChk : DefAt K "check_steps" sSteps) (dMods : DefAt K "modules_in" sMods) (d22 : DefAt K "_law_pot" sPot) (d23 : DefAt K "_law_draw" sDraw) (d24 : DefAt K "_law_choice" sChoice) (d25 : DefAt K "_law_name" sName) (d26 : DefAt K "_law_names" sNames) (d27 : DefAt K "_law_integer" sInteger) (d28 : DefAt K "_law_step" sStep) (d29 : DefAt K "_law_program" sProg) (d30 : DefAt K "_law_wrong_step" sWStep) (d31 : DefAt K "_law_spoilt" sSpo) (d32 : DefAt K "_law_is_whole" sWhole) (d33 : DefAt K "_law_is_word" sWord) (d34 : DefAt K "_law_fits" sFits) (d35 : DefAt K "_law_is_right_step" sRightStep) (d36 : DefAt K "_law_is_wrong" sWrong) (d37 : DefAt K "_law_due" sDue) (d38 : DefAt K "_law_told" sTold) (d39 : DefAt K "_law_judged" sJudged) (d40 : DefAt K "_law_right" sRight) (d41 : DefAt K "law" sLaw)
    (dC : DefKw K "check_program" sCheck) :
    ∃ fd : FuncData, (∀ (s : Shared) (v : Value), BindsTo s fd ⟨[v], []⟩ [("_law_script", v)]) ∧ ∀ base : Heap, K.In base → base.Ns mainGlobals mg → FnG P w K mg base CX0 11 fa fd ["_law_script"] (spLaw K) := by
  obtain ⟨es, S⟩ := S'
  obtain ⟨f, od, an, sl, oc, kV, dc, pm, cd, ct, a, l, c, kp⟩ := d41
  have e := hfa.symm.trans (PySem.W.mg_of X G a)
  cases e
  have F := fun_mk (st := sLaw) l c kp
  refine ⟨PySem.W.fnOf "law" "law" (defArgs sLaw) (defBody sLaw) (defScope sLaw) .none kV dc pm an cd ct, fun s v => .of_eq rfl, fun base _ _ => ?_⟩
  have gV := PySem.W.mg_of X G v1
  have gS := PySem.W.mg_of X G v6
  have gL := PySem.W.mg_of X G v3
  have gM := PySem.W.mg_of X G v4
  obtain ⟨fE, fdE, EP⟩ := errAt_of (mg := mg) X G c0 cI
  have T : ErrC K mg C L C1 C2 C3 := ⟨PySem.W.mg_of X G c0, PySem.W.mg_of X G c1, PySem.W.mg_of X G c2, PySem.W.mg_of X G c3, PySem.W.mg_of X G c4, cE, cX, EP.no, cM, i1, i2, i3, iV, iC⟩
  have MP : MkNum P w K mg base C "InvalidProgram" "position" "position" := mkP EP B
  -- level 1
  have hI : HasO P w K mg base 1 "is_integer" ["value"] (spD isInteger) := hasO_mk X G d9 (fun _ _ _ _ _ _ us hl => match us, hl with | [_], _ => rfl) fun f fd F => ok_isInteger F B
  have hN : HasO P w K mg base 1 "is_name" ["value"] (spD isName) := hasO_mk X G d10 (fun _ _ _ _ _ _ us hl => match us, hl with | [_], _ => rfl) fun f fd F => ok_isName F B gL
  have hV : HasO P w K mg base 1 "is_variable" ["value"] (spD isVar) := hasO_mk X G d11 (fun _ _ _ _ _ _ us hl => match us, hl with | [_], _ => rfl) fun f fd F => ok_isVar F B gV v2
  have hPot : Has P w K mg base 1 "_law_pot" ["_law_script", "_law_index"] (spPot K) := has_mk X G d22 (fun _ _ _ _ _ _ us hl => match us, hl with | [_, _], _ => rfl) fun f fd F => ok_pot F B
  have hD : Has P w K mg base 1 "_law_draw" ["_law_pot_here", "_law_most"] spDraw := has_mk X G d23 (fun _ _ _ _ _ _ us hl => match us, hl with | [_, _], _ => rfl) fun f fd F => ok_draw F B
  have hW : Has P w K mg base 1 "_law_is_whole" ["_law_value"] (spD isInteger) := has_mk X G d32 (fun _ _ _ _ _ _ us hl => match us, hl with | [_], _ => rfl) fun f fd F => ok_whole F B
  have hWd : Has P w K mg base 1 "_law_is_word" ["_law_value"] (spD isName) := has_mk X G d33 (fun _ _ _ _ _ _ us hl => match us, hl with | [_], _ => rfl) fun f fd F => ok_word F B
  -- level 2
  have hIt : HasO P w K mg base 2 "is_item" ["value", "kind"] spItem := hasO_mk X G d15 (fun _ _ _ _ _ _ us hl => match us, hl with | [_, _], _ => rfl) fun f fd F => by
    obtain ⟨fI, fdI, GI, bI, kI, gI⟩ := hI.ex
    obtain ⟨fV, fdV, GV, bV, kV', gV'⟩ := hV.ex
    obtain ⟨fN, fdN, GN, bN, kN, gN⟩ := hN.ex
    exact ok_isItem F GI bI kI gI GV bV kV' gV' GN bN kN gN
  have hCh : Has P w K mg base 2 "_law_choice" ["_law_pot_here", "_law_options"] spChoice := has_mk X G d24 (fun _ _ _ _ _ _ us hl => match us, hl with | [_, _], _ => rfl) fun f fd F => ok_choice F B hD
  have hNm : Has P w K mg base 2 "_law_name" ["_law_pot_here", "_law_used"] spName := has_mk X G d25 (fun _ _ _ _ _ _ us hl => match us, hl with | [_, _], _ => rfl) fun f fd F => ok_name F B hD
  have hFt : Has P w K mg base 2 "_law_fits" ["_law_sort", "_law_value"] spFits := has_mk X G d34 (fun _ _ _ _ _ _ us hl => match us, hl with | [_, _], _ => rfl) fun f fd F => ok_fits (fW := f) (fN := f) (fdW := fd) (fdN := fd) F B hW hWd
  -- level 3
  have hSt : HasO P w K mg base 3 "is_step" ["value"] (spD isStep) := hasO_mk X G d16 (fun _ _ _ _ _ _ us hl => match us, hl with | [_], _ => rfl) fun f fd F => by
    obtain ⟨fT, fdT, GT, bT, kT, gT⟩ := hIt.ex
    exact ok_isStep F B gS S GT bT kT gT
  have hRs : Has P w K mg base 3 "_law_is_right_step" ["_law_value"] (spD isStep) := has_mk X G d35 (fun _ _ _ _ _ _ us hl => match us, hl with | [_], _ => rfl) fun f fd F => ok_rightStep F B hFt
  have hNs : Has P w K mg base 3 "_law_names" ["_law_pot_here", "_law_number"] spNames := has_mk X G d26 (fun _ _ _ _ _ _ us hl => match us, hl with | [_, _], _ => rfl) fun f fd F => ok_names F B hNm
  have hIn : Has P w K mg base 3 "_law_integer" ["_law_pot_here"] spInteger := has_mk X G d27 (fun _ _ _ _ _ _ us hl => match us, hl with | [_], _ => rfl) fun f fd F => ok_integer F (hD.up (by decide)) hCh
  have hWs : Has P w K mg base 3 "_law_wrong_step" ["_law_pot_here"] spWStep := has_mk X G d30 (fun _ _ _ _ _ _ us hl => match us, hl with | [_], _ => rfl) fun f fd F => ok_wstep F hCh
  -- level 4
  have hSM : HasO P w K mg base 1 "step_modules" ["step"] spSM := hasO_mk X G dSM (fun _ _ _ _ _ _ us hl => match us, hl with | [_], _ => rfl) fun f fd F => ok_sm F B gS S
  have hBf : HasO P w K mg base 4 "is_step_before" ["value", "steps_after", "modules"] spBefore := hasO_mk X G d17 (fun _ _ _ _ _ _ us hl => match us, hl with | [_, _, _], _ => rfl) fun f fd F => ok_before F B hSt (hSM.up (by decide))
  have hChk : HasE P w K mg base 5 "check_steps" ["value", "is_main", "modules"] (spSteps C) := hasE_mk X G dChk (fun _ _ _ _ _ _ us hl => match us, hl with | [_, _, _], _ => rfl) fun f fd F => ok_steps F B MP (by decide) gM hBf
  have hSp : Has P w K mg base 4 "_law_step" ["_law_pot_here", "_law_modules", "_law_names_here", "_law_after"] spStep := has_mk X G d28 (fun _ _ _ _ _ _ us hl => match us, hl with | [_, _, _, _], _ => rfl) fun f fd F => ok_step F B (hD.up (by decide)) (hCh.up (by decide)) hIn
  have hWr : Has P w K mg base 4 "_law_is_wrong" ["_law_step_here", "_law_after", "_law_is_first"] spWrong := has_mk X G d36 (fun _ _ _ _ _ _ us hl => match us, hl with | [_, _, _], _ => rfl) fun f fd F => ok_wrong F hRs
  have hSo : Has P w K mg base 4 "_law_spoilt" ["_law_pot_here", "_law_program_here"] spSpo := has_mk X G d31 (fun _ _ _ _ _ _ us hl => match us, hl with | [_, _], _ => rfl) fun f fd F => ok_spo F B (hD.up (by decide)) hWs
  -- level 5
  have hPr : Has P w K mg base 5 "_law_program" ["_law_pot_here", "_law_modules", "_law_names_here", "_law_most"] spProg := has_mk X G d29 (fun _ _ _ _ _ _ us hl => match us, hl with | [_, _, _, _], _ => rfl) fun f fd F => ok_prog F B (hD.up (by decide)) (hCh.up (by decide)) hSp
  have hDu : Has P w K mg base 5 "_law_due" ["_law_value", "_law_is_first"] spDue := has_mk X G d37 (fun _ _ _ _ _ _ us hl => match us, hl with | [_, _], _ => rfl) fun f fd F => ok_due F B hWr
  have hCk : HasC P w K mg base 6 C := by
    obtain ⟨f', D', od', an', sl', oc', dc', pm', cd', ct', a', l', c', kp', m'⟩ := dC
    have F' := fun_mk (st := sCheck) l' c' kp'
    have FD : FunD K "check_program" "check_program" (defArgs sCheck) (defBody sCheck) (defScope sCheck) [] [("is_main", .bl false)] f' _ := ⟨⟨oc', od', .none, .ref D', dc', pm', an', cd', ct', sl', rfl, l', c', .inl ⟨rfl, rfl⟩, .inr ⟨D', rfl, fun q hq => by
      rw [List.mem_singleton.mp hq]
      exact ⟨_, m', rfl⟩⟩⟩, kp'⟩
    obtain ⟨ds, vd, bd⟩ := FD.binds0 (ps := ["value", "is_main"]) 1 (by decide) rfl (fun D doc pm an cdv ct us ks hu hk => by
      match us, ks, hu, hk with
      | [u], [k1], _, _ => exact ⟨_, _, _, _, _, _, rfl, rfl, rfl⟩)
    obtain ⟨mv, kb⟩ := FD.kbinds0 (ps := ["value", "is_main"]) 1 ["is_main"] [] (fun vs _ zs => vs ++ zs) (by decide) (fun q hq => nomatch hq) (fun r1 _ r3 => r1.append r3) (fun D doc pm an cdv ct us mv ws hu hm hw => by
      match us, mv, ws, hu, hm, hw with
      | [u], [], [w1], _, _, _ => rfl)
    exact ⟨⟨f', _, ok_check F' hChk, ⟨ds, vd, bd⟩, ⟨_, kb⟩, kp', PySem.W.mg_of X G a'⟩⟩
  have hMo := mods_mk (P := P) (w := w) X G B v6 ⟨es, S⟩ dSM dMods base hCk
  -- level 7
  have hTo : Has P w K mg base 8 "_law_told" ["_law_way", "_law_value"] spTold := has_mk X G d38 (fun _ _ _ _ _ _ us hl => match us, hl with | [_, _], _ => rfl) fun f fd F => ok_told F B T (hCk.up (by decide)) hMo
  have hJ : Has P w K mg base 9 "_law_judged" ["_law_value"] spJ := has_mk X G d39 (fun _ _ _ _ _ _ us hl => match us, hl with | [_], _ => rfl) fun f fd F => ok_judged F B (hDu.up (by decide)) hTo (hMo.up (by decide)) (hCk.up (by decide))
  have hR : Has P w K mg base 10 "_law_right" ["_law_pot_here"] spRight := has_mk X G d40 (fun _ _ _ _ _ _ us hl => match us, hl with | [_], _ => rfl) fun f fd F =>
    ok_right F B gM (hNs.up (by decide)) (hPr.up (by decide)) (hD.up (by decide)) (hWs.up (by decide)) hJ (hSo.up (by decide)) (hCh.up (by decide))
  exact ok_law F B hR (hPot.up (by decide))
end Cr
open PySem PySem.W PyProof.Rows
set_option maxRecDepth 100000 in
set_option maxHeartbeats 0 in
theorem PySem.Challenge.cw_cycleready_k12_programs_checked_holds : PySem.Challenge.rw_cycleready_k12_programs_checked.Holds := by
  w_on; o_law; k_head; (case hw => w_witness2)
  k_fill
  refine Cr.walkG (l := PySem.Challenge.rw_cycleready_k12_programs_checked) (n := 63) (k := 11) (x := "_law_script") (sp := fun w => Cr.spLaw _) rfl (by decide) rfl ⟨rfl, by decide, by decide⟩ (fun w h Y => PySem.W.kIn_of Y) ?F (fun _ _ a ns hl _ hS => ⟨a, ns, rfl, hS, hl, fun _ => rfl⟩)
  case F =>
    intro w mg fa h KX G hmg
    have B : Cr.Blt mg := by
      constructor
      · exact PySem.W.mg_none_of KX G (by k_is)
      · exact PySem.W.mg_none_of KX G (by k_is)
      · exact PySem.W.mg_none_of KX G (by k_is)
      · exact PySem.W.mg_none_of KX G (by k_is)
      · exact PySem.W.mg_none_of KX G (by k_is)
      · exact PySem.W.mg_none_of KX G (by k_is)
      · exact PySem.W.mg_none_of KX G (by k_is)
      · exact PySem.W.mg_none_of KX G (by k_is)
      · exact PySem.W.mg_none_of KX G (by k_is)
      · exact PySem.W.mg_none_of KX G (by k_is)
      · exact PySem.W.mg_none_of KX G (by k_is)
      · exact PySem.W.mg_none_of KX G (by k_is)
      · exact PySem.W.mg_none_of KX G (by k_is)
      · exact PySem.W.mg_none_of KX G (by k_is)
      · exact PySem.W.mg_none_of KX G (by k_is)
      · exact PySem.W.mg_none_of KX G (by k_is)
      · exact PySem.W.mg_none_of KX G (by k_is)
      · exact PySem.W.mg_none_of KX G (by k_is)
      · exact PySem.W.mg_none_of KX G (by k_is)
      · exact PySem.W.mg_none_of KX G (by k_is)
      · exact PySem.W.mg_none_of KX G (by k_is)
    refine' Cr.all_mk (P := PySem.Challenge.pw_cycleready_k12_programs_checked) KX G hmg B ?p_v1 ?p_v2 ?p_v3 ?p_v4 ?p_v6 ?p_S' ?p_c0 ?p_c1 ?p_c2 ?p_c3 ?p_c4 ?p_cI ?p_cE ?p_cX ?p_cM ?p_i1 ?p_i2 ?p_i3 ?p_iV ?p_iC ?p_d9 ?p_d10 ?p_d11 ?p_d15 ?p_d16 ?p_d17 ?p_dSM ?p_dChk ?p_dMods ?p_d22 ?p_d23 ?p_d24 ?p_d25 ?p_d26 ?p_d27 ?p_d28 ?p_d29 ?p_d30 ?p_d31 ?p_d32 ?p_d33 ?p_d34 ?p_d35 ?p_d36 ?p_d37 ?p_d38 ?p_d39 ?p_d40 ?p_d41 ?p_dC
    (case p_v1 => k_is)
    (case p_v2 => refine' Cr.ktup4 ?l; (case l => k_is))
    (case p_v3 => k_is)
    (case p_v4 => k_is)
    (case p_v6 => k_is)
    (case p_S' => refine' Cr.shapes_mk ?l ?e1 ?e2 ?e3 ?e4 ?e5 ?e6 ?e7 ?e8 ?low ?k1 ?k2 ?k3 ?k4 ?k5 ?k6 ?k7 ?k8; (case l => k_is); (case e1 => first | rfl | k_is); (case e2 => first | rfl | k_is); (case e3 => first | rfl | k_is); (case e4 => first | rfl | k_is); (case e5 => first | rfl | k_is); (case e6 => first | rfl | k_is); (case e7 => first | rfl | k_is); (case e8 => first | rfl | k_is); (case low => first | rfl | decide | k_is); (case k1 => refine' Cr.ktup2 ?l; (case l => k_is)); (case k2 => refine' Cr.ktup2 ?l; (case l => k_is)); (case k3 => refine' Cr.ktup2 ?l; (case l => k_is)); (case k4 => refine' Cr.ktup2 ?l; (case l => k_is)); (case k5 => refine' Cr.ktup3 ?l; (case l => k_is)); (case k6 => refine' Cr.ktup1 ?l; (case l => k_is)); (case k7 => refine' Cr.ktup2 ?l; (case l => k_is)); (case k8 => refine' Cr.ktup0 ?l; (case l => k_is)))
    (case p_c0 => k_is)
    (case p_c1 => k_is)
    (case p_c2 => k_is)
    (case p_c3 => k_is)
    (case p_c4 => k_is)
    (case p_cI => refine' Cr.errK ?zi ?zl ?zc ?zs ?zt ?zp; (case zi => k_is); (case zl => k_is); (case zc => k_is); (case zs => refine' Cr.supG_mk ?xo ?xa ?xb ?xc ?xd ?xe ?xf ?xg ?xh ?xi; (case xo => refine' Cr.oexG_mk Cr.xbV_ok ?y1 ?y2 ?y3 ?y4 ?y5 ?y6; (case y1 => k_is); (case y2 => first | rfl | kernel_rfl | k_is); (case y3 => k_is); (case y4 => k_is); (case y5 => k_is); (case y6 => k_is)); (case xa => k_is); (case xb => first | rfl | k_is); (case xc => first | rfl | decide +kernel); (case xd => k_is); (case xe => k_is); (case xf => k_is); (case xg => first | ks_is | k_is); (case xh => k_is); (case xi => first | rfl | decide +kernel)); (case zt => k_is); (case zp => k_is))
    (case p_cE => refine' ⟨?h1, ?h2, ?h3, ?h4, ?h5, ?h6, ?h7, ?h8⟩; (case h1 => k_is); (case h2 => k_is); (case h3 => k_is); (case h4 => k_is); (case h5 => k_is); (case h6 => k_is); (case h7 => k_is); (case h8 => k_is))
    (case p_cX => refine' ⟨?h1, ?h2, ?h3, ?h4⟩; (case h1 => k_is); (case h2 => k_is); (case h3 => k_is); (case h4 => k_is))
    (case p_cM => refine' PySem.W.exm_ref ?h1 ?h2 ?h3 ?h4; (case h1 => k_is); (case h2 => k_is); (case h3 => k_is); (case h4 => k_is))
    (case p_i1 => kit_is)
    (case p_i2 => kit_is)
    (case p_i3 => kit_is)
    (case p_iV => kit_is)
    (case p_iC => kit_is)
    (case p_d9 => refine' Cr.defAt ?a ?l ?c ?k; (case a => k_is); (case l => k_is); (case c => k_is); (case k => k_is))
    (case p_d10 => refine' Cr.defAt ?a ?l ?c ?k; (case a => k_is); (case l => k_is); (case c => k_is); (case k => k_is))
    (case p_d11 => refine' Cr.defAt ?a ?l ?c ?k; (case a => k_is); (case l => k_is); (case c => k_is); (case k => k_is))
    (case p_d15 => refine' Cr.defAt ?a ?l ?c ?k; (case a => k_is); (case l => k_is); (case c => k_is); (case k => k_is))
    (case p_d16 => refine' Cr.defAt ?a ?l ?c ?k; (case a => k_is); (case l => k_is); (case c => k_is); (case k => k_is))
    (case p_d17 => refine' Cr.defAt ?a ?l ?c ?k; (case a => k_is); (case l => k_is); (case c => k_is); (case k => k_is))
    (case p_dSM => refine' Cr.defAt ?a ?l ?c ?k; (case a => k_is); (case l => k_is); (case c => k_is); (case k => k_is))
    (case p_dChk => refine' Cr.defAt ?a ?l ?c ?k; (case a => k_is); (case l => k_is); (case c => k_is); (case k => k_is))
    (case p_dMods => refine' Cr.defAt ?a ?l ?c ?k; (case a => k_is); (case l => k_is); (case c => k_is); (case k => k_is))
    (case p_d22 => refine' Cr.defAt ?a ?l ?c ?k; (case a => k_is); (case l => k_is); (case c => k_is); (case k => k_is))
    (case p_d23 => refine' Cr.defAt ?a ?l ?c ?k; (case a => k_is); (case l => k_is); (case c => k_is); (case k => k_is))
    (case p_d24 => refine' Cr.defAt ?a ?l ?c ?k; (case a => k_is); (case l => k_is); (case c => k_is); (case k => k_is))
    (case p_d25 => refine' Cr.defAt ?a ?l ?c ?k; (case a => k_is); (case l => k_is); (case c => k_is); (case k => k_is))
    (case p_d26 => refine' Cr.defAt ?a ?l ?c ?k; (case a => k_is); (case l => k_is); (case c => k_is); (case k => k_is))
    (case p_d27 => refine' Cr.defAt ?a ?l ?c ?k; (case a => k_is); (case l => k_is); (case c => k_is); (case k => k_is))
    (case p_d28 => refine' Cr.defAt ?a ?l ?c ?k; (case a => k_is); (case l => k_is); (case c => k_is); (case k => k_is))
    (case p_d29 => refine' Cr.defAt ?a ?l ?c ?k; (case a => k_is); (case l => k_is); (case c => k_is); (case k => k_is))
    (case p_d30 => refine' Cr.defAt ?a ?l ?c ?k; (case a => k_is); (case l => k_is); (case c => k_is); (case k => k_is))
    (case p_d31 => refine' Cr.defAt ?a ?l ?c ?k; (case a => k_is); (case l => k_is); (case c => k_is); (case k => k_is))
    (case p_d32 => refine' Cr.defAt ?a ?l ?c ?k; (case a => k_is); (case l => k_is); (case c => k_is); (case k => k_is))
    (case p_d33 => refine' Cr.defAt ?a ?l ?c ?k; (case a => k_is); (case l => k_is); (case c => k_is); (case k => k_is))
    (case p_d34 => refine' Cr.defAt ?a ?l ?c ?k; (case a => k_is); (case l => k_is); (case c => k_is); (case k => k_is))
    (case p_d35 => refine' Cr.defAt ?a ?l ?c ?k; (case a => k_is); (case l => k_is); (case c => k_is); (case k => k_is))
    (case p_d36 => refine' Cr.defAt ?a ?l ?c ?k; (case a => k_is); (case l => k_is); (case c => k_is); (case k => k_is))
    (case p_d37 => refine' Cr.defAt ?a ?l ?c ?k; (case a => k_is); (case l => k_is); (case c => k_is); (case k => k_is))
    (case p_d38 => refine' Cr.defAt ?a ?l ?c ?k; (case a => k_is); (case l => k_is); (case c => k_is); (case k => k_is))
    (case p_d39 => refine' Cr.defAt ?a ?l ?c ?k; (case a => k_is); (case l => k_is); (case c => k_is); (case k => k_is))
    (case p_d40 => refine' Cr.defAt ?a ?l ?c ?k; (case a => k_is); (case l => k_is); (case c => k_is); (case k => k_is))
    (case p_d41 => refine' Cr.defAt ?a ?l ?c ?k; (case a => k_is); (case l => k_is); (case c => k_is); (case k => k_is))
    (case p_dC => refine' Cr.defKw ?a ?l ?c ?k ?m; (case a => k_is); (case l => k_is); (case c => k_is); (case k => k_is); (case m => k_is))
