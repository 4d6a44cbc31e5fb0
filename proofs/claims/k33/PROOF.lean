import PyProof.Rows.All
import Wide.All
import OpenK.AllK
import Wide.FinOn
import PyProof.ReprRoads
import KE.GoesMore
import HandS.ForMost
import HandS.Evl
import HandS.IsInst
import HandS.Zip
import HandS.WideBits
import HandS.EndBits
import HandS.More
import HandS.Walk
import HandS.TupAny
import HandS.ExcInit
import HandS.ExcIs
import HandS.ExcField
import HandS.WordsExc
import KE.KExcSuper
import KE.KExcInit
import HandS.ExcOwn
import HandS.OwnEq
import HandS.NamedTupGet
import HandS.CallSlots
import HandS.Defaults
import HandS.MakeKwOnly
import HandS.FStr
import KE.KExcIs
import HandS.DictComp
import KE.KEqDict
import PyProof.NeKinds
import HandS.HotCalls
import HandS.Style
import HandS.Small
import PySem.Challenge.RW_cycleready_k33_errors_of_frames
set_option Elab.async false
set_option linter.all false
set_option maxRecDepth 100000
set_option maxHeartbeats 4000000
/-! Cr, part 1: promises of defs that hold where no repr is under way (so that repr may be asked inside of them). -/
namespace Cr
open PySem PySem.Spec PyProof.Rows L2 Evl

/-- nothing is being shown around -/
abbrev Quiet (A : Around) : Prop := A.guards = some []

/-- a def's promise, kept where it is quiet -/
structure FnG (P : Program) (w : World) (K : PySem.W.Frag) (mg : Str → Option Value) (base : Heap) (CX : CXT) (k : Nat) (f : Addr) (fd : FuncData) (ps : List Str) (sp : Sp) : Prop where
  sized : ∀ vs H Q E, sp vs H Q E → vs.length = ps.length
  goes : ∀ (A : Around) (outer : List Env) (s : Shared) (H : Hp) (args : Args) (us : List Value) (vs : List V) (Q : VK) (E : XK),
    Quiet A → Room k A → Env0 P w K mg base A outer s H → BindsTo s fd args (ps.zip us) → Vals vs us → sp vs H Q E →
    codeAny (model P w) A (.call (.ref f) args) (CR CX outer P w H s Q E) s

section
variable {P : Program} {w : World} {K : PySem.W.Frag} {mg : Str → Option Value} {base : Heap}

theorem FnG.ofOk {CX : CXT} {k : Nat} {f : Addr} {fd : FuncData} {ps : List Str} {sp : Sp}
    (F : FnOk P w K mg base CX k f fd ps sp) : FnG P w K mg base CX k f fd ps sp :=
  ⟨F.len, fun A outer s H args us vs Q E _ hr e hb r h => F.run A outer s H args us vs Q E hr e hb r h⟩

theorem FnG.up {CX : CXT} {j k : Nat} {f : Addr} {fd : FuncData} {ps : List Str} {sp : Sp}
    (F : FnG P w K mg base CX j f fd ps sp) (le : j ≤ k) : FnG P w K mg base CX k f fd ps sp :=
  ⟨F.sized, fun A outer s H args us vs Q E hq hr e hb r h => F.goes A outer s H args us vs Q E hq (hr.mono le) e hb r h⟩

/-- a def by its body, where it is quiet -/
theorem okG {x qual : Str} {st : Stmt} {f : Addr} {fd : FuncData} {N ps : List Str} {k : Nat} {sp : Sp}
    (F : Fun K x qual st f fd) (S : FnScope N ps (defScope st)) (len : ∀ vs H Q E, sp vs H Q E → vs.length = ps.length)
    (hbody : ∀ (cdv : Value) (A : Around) (outer : List Env) (s : Shared) (H : Hp) (vs : List V) (Q : VK) (E : XK),
      Quiet (A.deeper (envOfC qual (defScope st) s.heap.objs.size f cdv)) →
      Room k (A.deeper (envOfC qual (defScope st) s.heap.objs.size f cdv)) → sp vs H Q E →
      ∃ t, PSs (cxOf CX0 P w K mg base N qual (defScope st) f cdv A outer s H E).nox (defBody st) t ∧
        t { nx := fun _ H' => Q .non H', rt := Q } (start N vs) H) :
    FnG P w K mg base CX0 (k + 1) f fd ps sp := by
  obtain ⟨oc, od, kV, doc, pm, an, cdv, ct, osl, rfl, lk, hcd⟩ := F.ex
  refine ⟨len, fun A outer s H args us vs Q E hq hr e0 hb r hsp => ?_⟩
  have keepB : ∀ b o, base.get? b = some o → s.heap.get? b = some o := fun b o e => (e0.bs b o e).1
  have kinds : ((ps.zip us).all fun y => (defScope st).names.lookup y.1 == some .local || (defScope st).names.lookup y.1 == some .cell) = true := by
    refine List.all_eq_true.mpr fun y hy => ?_
    obtain ⟨n, v⟩ := y
    rcases S.par n (List.of_mem_zip hy).1 with z | z
    · simp [z]
    · simp [z]
  refine Att.call_fn (binds := ps.zip us) (e0.mod.kin.keeps keepB) (e0.mod.nolimit.keeps keepB) lk hcd hr.depth hb kinds (fun s1 IC => ?_) S.co S.gen S.kind
  obtain ⟨t, ht, hT⟩ := hbody cdv A outer s H vs Q E hq (hr.deeper _) hsp
  have I := inv_start (CX := CX0) (E := E) S hr.hd e0 (len _ _ _ _ hsp) r IC
  refine wpAny_mono (ht.nox.run [] s1 (start N vs) H _ I hT) (fun fl s2 h2 => ?_) fun e s2 h2 => h2
  match fl, h2 with
  | .ret u, ⟨v, σ2, H2, J, rv, q⟩ => exact ⟨v, H2, J.os, J.bare, J.base, J.hok, rv, q⟩
  | .next, ⟨σ2, H2, J, q⟩ => exact ⟨V.non, H2, J.os, J.bare, J.base, J.hok, rfl, q⟩
  | .brk, ⟨_, _, _, q⟩ => exact q.elim
  | .cont, ⟨_, _, _, q⟩ => exact q.elim
end

section
variable {X : Cx} {CX : CXT} {k : Nat} {f : Addr} {fd : FuncData} {ps : List Str} {sp : Sp} {dvs : List V} {ds : List Value} {E : XK}

/-- the callee, called where it is quiet -/
theorem runG {pins : List (Addr × Obj)} {σ : L2.St} {H : Hp} {s : Shared} {Q : VK} {us : List Value} {vs : List V}
    (F : FnG X.prog X.w X.K X.mg X.base CX k f fd ps sp) (hq : Quiet X.A) (hr : Room k X.A) (hb : Binds X.K fd ps ds) (hd : Vals dvs ds)
    (hx : Passes CX X E) (I : Inv X pins σ H s) (r : Vals vs us) (h : sp (vs ++ dvs) H Q E) :
    wpAny (model X.prog X.w) X.A (call (.ref f) us) (EP X pins σ Q) X.xe s := by
  have rr : Vals (vs ++ dvs) (us ++ ds) := Vals.append r hd
  have nn : (us ++ ds).length = ps.length := rr.length.symm.trans (F.sized _ _ _ _ h)
  have c := F.goes X.A X.stack s H ⟨us, []⟩ (us ++ ds) (vs ++ dvs) Q E hq hr (Inv.env0 I) (hb s us I.kIn nn) rr h
  refine wpAny_call (codeAny_mono c fun res s2 z => ?_)
  match res, z with
  | .error e, z => exact hx pins σ H s e s2 I z
  | .ok (.ret u), z => exact Inv.after I z
  | .ok .next, z => exact False.elim z
  | .ok .brk, z => exact False.elim z
  | .ok .cont, z => exact False.elim z

variable {x : Str} {p pos : Pos} {e : Expr} {es : List Expr} {t : TA}
theorem callG (F : FnG X.prog X.w X.K X.mg X.base CX k f fd ps sp) (hq : Quiet X.A) (hr : Room k X.A) (hg : Gl X x)
    (hm : X.mg x = some (.ref f)) (hk : PySem.W.keepIn X.K (.ref f) = true) (hb : Binds X.K fd ps ds) (hd : Vals dvs ds) (hx : Passes CX X E)
    (ha : PA X (e :: es) t) (hdb : (x == ("__debug__" : Str)) = false := by decide)
    (he : starEach (e :: es) X.env = (false, eval e X.env) :: starEach es X.env := by rfl)
    (hpl : (backTo pos (starEach es X.env)).any (·.1) = false := by rfl) :
    PE X (.Call (.Name x p) (e :: es) [] pos) (tCall sp dvs E t) := by
  constructor
  intro pins s σ H Q I h
  refine wpAny_Call_Name_kw (ld_glob I hg hm ?_ hdb)
  refine PySem.W.callWith_K (h₀ := X.base) I.ok.mod.kin hk ?_ he hpl
  refine thn (ha.run pos pins s σ H _ I h) ?_
  rintro us s1 ⟨vs, H1, I1, r, q⟩
  exact ⟨I1.kIn, runG F hq hr hb hd hx I1 r q⟩
theorem call0G (F : FnG X.prog X.w X.K X.mg X.base CX k f fd ps sp) (hq : Quiet X.A) (hr : Room k X.A) (hg : Gl X x)
    (hm : X.mg x = some (.ref f)) (hk : PySem.W.keepIn X.K (.ref f) = true) (hb : Binds X.K fd ps ds) (hd : Vals dvs ds) (hx : Passes CX X E)
    (hdb : (x == ("__debug__" : Str)) = false := by decide) : PE X (.Call (.Name x p) [] [] pos) (tCall sp dvs E tNil) := by
  constructor
  intro pins s σ H Q I h
  refine wpAny_Call_Name_kw (ld_glob I hg hm ?_ hdb)
  exact PySem.W.callWith_K0 I.kIn hk (runG (us := []) F hq hr hb hd hx I .nil h)
end

/-! ### the law's own call -/
theorem law_callG {P : Program} {w : World} {K : PySem.W.Frag} {mg mb : Str → Option Value} {k : Nat} {fa a : Addr} {fd : FuncData} {x : Str} {sp : Sp} {s₁ : Shared} {vs : List Value} {ns : List Int}
    (KX : K.In s₁.heap) (hns : s₁.heap.Ns mainGlobals mg) (hb : s₁.heap.Ns builtinsNs mb) (hbb : ∀ x : Str, x ≠ "__name__" → mb x = bootBuiltins x)
    (hlim : s₁.heap.NoLimit) (hg : s₁.gens = #[]) (ha : s₁.heap.get? a = some { cls := .type "list", data := .seq vs.toArray })
    (hi : IntsAre vs ns) (hl : ns.length ≤ sizeLine) (hr : Room k callerA)
    (F : ∀ base : Heap, K.In base → base.Ns mainGlobals mg → FnG P w K mg base CX0 k fa fd [x] sp)
    (hbind : ∀ (s : Shared) (u : Value), BindsTo s fd ⟨[u], []⟩ [(x, u)])
    (hsp : ∀ H : Hp, SqL K H a (ns.map V.int) → sp [.ref a] H (fun v _ => v = .bl true) E0) :
    codeAny (model P w) callerA (.call (.ref fa) ⟨[.ref a], []⟩) (fun r s' => r = .ok (.ret (.bool true)) ∧ OldK s₁.heap s'.heap ∧ s'.os = s₁.os ∧ AllBare s'.gens) s₁ := by
  have rv := vals_ints hi
  have lenV := hi.length
  have core : ∀ H : Hp, (∀ b, H b = none ∨ (b = a ∧ H b = some (.frz { cls := .type "list", data := .seq vs.toArray } (.lst (ns.map V.int))) ∧ K.lookup a = none)) →
      SqL K H a (ns.map V.int) →
      codeAny (model P w) callerA (.call (.ref fa) ⟨[.ref a], []⟩) (fun r s' => r = .ok (.ret (.bool true)) ∧ OldK s₁.heap s'.heap ∧ s'.os = s₁.os ∧ AllBare s'.gens) s₁ := by
    intro H hO hS
    have hok : HOk P w H s₁.heap := fun b u z => by
      rcases hO b with q | ⟨rfl, q, _⟩
      · rw [q] at z; cases z
      · rw [q] at z; cases z
        exact ⟨ha, by rw [List.length_map]; exact hl, vs, _, rv, ha⟩
    have keepN : ∀ {b : Addr} {m : Str → Option Value}, s₁.heap.Ns b m → (hidT s₁.heap H).Ns b m := fun {b m} z => by
      obtain ⟨o, es, ep, e, d, r⟩ := z
      refine ⟨o, es, ep, hidT_get e ?_, d, r⟩
      rcases hO b with q | ⟨rfl, q, _⟩
      · exact q
      · rw [ha] at e
        cases e
        have d' : Data.seq vs.toArray _ = Data.dict es ep := d
        cases d'
    have keepK : K.In (hidT s₁.heap H) := fun b o e => by
      refine hidT_get (KX b o e) ?_
      rcases hO b with q | ⟨rfl, q, n⟩
      · exact q
      · rw [n] at e; cases e
    have hM : Mod K mg (hidT s₁.heap H) := by
      obtain ⟨mc, l1, l2⟩ := hlim
      exact ⟨keepK, keepN hns, ⟨mb, keepN hb, hbb⟩, ⟨mc, keepN l1, l2⟩⟩
    have e0 : Env0 P w K mg (hidT s₁.heap H) callerA [] s₁ H :=
      { frames := rfl, mod := hM, bs := fun b o e => of_hidT e, bsz := Nat.le_of_eq (hidT_size _ _), funs := trivial,
        frf := fun b z => absurd (show b ∈ ([] : List Addr) from z) List.not_mem_nil, hok := hok, bare := .of_eq hg }
    have go := (F _ keepK (keepN hns)).goes callerA [] s₁ H ⟨[.ref a], []⟩ [.ref a] [.ref a] _ _ rfl hr e0 (hbind s₁ (.ref a)) (.cons rfl .nil) (hsp H hS)
    refine codeAny_mono go fun res s2 z => ?_
    match res, z with
    | .error e, z => exact z.elim
    | .ok .next, z => exact False.elim z
    | .ok .brk, z => exact False.elim z
    | .ok .cont, z => exact False.elim z
    | .ok (.ret u), ⟨v, H2, os, bare, un, hok2, rel, q⟩ =>
      have qv : v = .bl true := q
      subst qv
      obtain rfl : u = Value.bool true := rel
      refine ⟨rfl, OldK.of_keep fun b o e => ?_, os, bare⟩
      rcases hO b with z | ⟨rfl, z, _⟩
      · exact un.keep b o e z (fun y => absurd (show b ∈ ([] : List Addr) from y) List.not_mem_nil) List.not_mem_nil
      · obtain ⟨g1, _⟩ := hok2 b _ (un.frzs b _ _ z)
        rw [ha] at e
        cases e
        exact g1
  cases hk : K.lookup a with
  | some o =>
    have e := KX a o hk
    rw [ha] at e
    cases e
    exact core (fun _ => none) (fun _ => .inl rfl) (.inr ⟨_, vs.toArray, _, hk, rfl, rfl, rfl, by rw [List.size_toArray, lenV]; exact hl, by simpa using rv⟩)
  | none =>
    refine core (fun b => if b = a then some (.frz { cls := .type "list", data := .seq vs.toArray } (.lst (ns.map V.int))) else none) (fun b => ?_) (.inl (.inr ⟨_, if_pos rfl⟩))
    by_cases hb : b = a
    · exact .inr ⟨hb, if_pos hb, hk⟩
    · exact .inl (if_neg hb)

/-- the end of a law row, the script's bits told -/
theorem walkG {l : PySem.W.OpenLaw} {n k : Nat} {q : Program} {loose : List Str} {XP : (Str → Option Value) → Heap → Prop} {YP : World → Heap → Prop} {d : DefRec} {K : Params → PySem.W.Frag} {sp : World → Sp} {x : Str}
    (hn : l.most = some n) (hn2 : n ≤ sizeLine) (hdf : d.params.defaults = []) (hr : Room k callerA)
    (hY : ∀ (w : World) (h : Heap), YP w h → (K w.params).In h)
    (F : ∀ (w : World) (mg : Str → Option Value) (fa : Addr) (h : Heap), (K w.params).In h → h.Ns mainGlobals mg → mg d.name = some (.ref fa) →
      ∃ fd : FuncData, (∀ (s : Shared) (u : Value), BindsTo s fd ⟨[u], []⟩ [(x, u)]) ∧
        ∀ base : Heap, (K w.params).In base → base.Ns mainGlobals mg → FnG l.prog w (K w.params) mg base CX0 k fa fd [x] (sp w))
    (hsp : ∀ (w : World) (H : Hp) (a : Addr) (ns : List Int), ns.length ≤ n → (∀ z ∈ ns, Builtin.Int.intBits z ≤ 1048576) →
      SqL (K w.params) H a (ns.map V.int) → sp w [.ref a] H (fun v _ => v = .bl true) E0) :
    PySem.W.WalkO q loose XP YP l.row.toRowW d [] (fun f vs => PySem.call f vs) := by
  refine Att.attach_callB hn hdf ?_
  intro w s₀ s₁ mg mb fa o pm cd doc a vs ns G Y ho hd hcd hmg hobj hints hlen hbits hgen
  obtain ⟨fd, hb, hF⟩ := F w mg fa _ (hY w _ Y) G.T.g hmg
  exact law_callG (hY w _ Y) G.T.g G.T.b G.T.builtins G.T.nolimit hgen hobj hints (Nat.le_trans hlen hn2) hr hF hb
    (fun H hS => hsp w H a ns hlen hbits hS)
end Cr
/-! Cr, part 2: data in the abstract heap, repr of it, isinstance of it. -/
namespace Cr
open PySem PySem.Spec PyProof.Rows L2 Evl

def kD : Key → PyData
  | .inl i => .int i
  | .inr x => .str x

mutual
/-- the value v is the data d, all of it tracked -/
inductive Dt (H : Hp) : V → PyData → Prop
  | non : Dt H .non .none
  | bl (b : Bool) : Dt H (.bl b) (.bool b)
  | int (i : Int) : Dt H (.int i) (.int i)
  | str (x : Str) : Dt H (.str x) (.str x)
  | lst {a : Addr} {xs : List V} {ds : List PyData} : H a = some (.lst xs) → DtAll H xs ds → Dt H (.ref a) (.list ds)
  | tup {a : Addr} {xs : List V} {ds : List PyData} : H a = some (.tup xs) → DtAll H xs ds → Dt H (.ref a) (.tuple ds)
  | dct {a : Addr} {kvs : List (Key × V)} {es : List (PyData × PyData)} : H a = some (.dK kvs) → DtKv H kvs es → Dt H (.ref a) (.dict es)
inductive DtAll (H : Hp) : List V → List PyData → Prop
  | nil : DtAll H [] []
  | cons {v : V} {vs : List V} {d : PyData} {ds : List PyData} : Dt H v d → DtAll H vs ds → DtAll H (v :: vs) (d :: ds)
inductive DtKv (H : Hp) : List (Key × V) → List (PyData × PyData) → Prop
  | nil : DtKv H [] []
  | cons {k : Key} {v : V} {kvs : List (Key × V)} {d : PyData} {es : List (PyData × PyData)} : Dt H v d → DtKv H kvs es → DtKv H ((k, v) :: kvs) ((kD k, d) :: es)
end

mutual
theorem Dt.ex {H H' : Hp} (e : Ex H H') : ∀ {v : V} {d : PyData}, Dt H v d → Dt H' v d
  | _, _, .non => .non
  | _, _, .bl b => .bl b
  | _, _, .int i => .int i
  | _, _, .str x => .str x
  | _, _, .lst h a => .lst (e _ _ h) (DtAll.ex e a)
  | _, _, .tup h a => .tup (e _ _ h) (DtAll.ex e a)
  | _, _, .dct h a => .dct (e _ _ h) (DtKv.ex e a)
theorem DtAll.ex {H H' : Hp} (e : Ex H H') : ∀ {vs : List V} {ds : List PyData}, DtAll H vs ds → DtAll H' vs ds
  | _, _, .nil => .nil
  | _, _, .cons h t => .cons (Dt.ex e h) (DtAll.ex e t)
theorem DtKv.ex {H H' : Hp} (e : Ex H H') : ∀ {kvs : List (Key × V)} {es : List (PyData × PyData)}, DtKv H kvs es → DtKv H' kvs es
  | _, _, .nil => .nil
  | _, _, .cons h t => .cons (Dt.ex e h) (DtKv.ex e t)
end

theorem DtAll.length {H : Hp} : ∀ {vs : List V} {ds : List PyData}, DtAll H vs ds → vs.length = ds.length
  | _, _, .nil => rfl
  | _, _, .cons _ t => by simp [DtAll.length t]
theorem DtKv.len {H : Hp} : ∀ {kvs : List (Key × V)} {ds : List (PyData × PyData)}, DtKv H kvs ds → kvs.length = ds.length
  | _, _, .nil => rfl
  | _, _, .cons _ t => by simp [DtKv.len t]
theorem DtAll.get {H : Hp} : ∀ {vs : List V} {ds : List PyData} {i : Nat} {v : V}, DtAll H vs ds → vs[i]? = some v → ∃ d, ds[i]? = some d ∧ Dt H v d
  | _, _, _, _, .nil, h => by simp at h
  | _, _, 0, _, .cons h _, e => by simp at e; subst e; exact ⟨_, rfl, h⟩
  | _, _, i + 1, _, .cons _ t, e => by
    obtain ⟨d, h1, h2⟩ := DtAll.get (i := i) t (by simpa using e)
    exact ⟨d, by simpa using h1, h2⟩
theorem DtAll.append {H : Hp} : ∀ {vs ws : List V} {ds es : List PyData}, DtAll H vs ds → DtAll H ws es → DtAll H (vs ++ ws) (ds ++ es)
  | _, _, _, _, .nil, s => s
  | _, _, _, _, .cons h t, s => .cons h (DtAll.append t s)
theorem DtAll.drop {H : Hp} : ∀ {vs : List V} {ds : List PyData} (n : Nat), DtAll H vs ds → DtAll H (vs.drop n) (ds.drop n)
  | _, _, 0, h => h
  | _, _, _ + 1, .nil => .nil
  | _, _, n + 1, .cons _ t => DtAll.drop n t
theorem DtAll.take {H : Hp} : ∀ {vs : List V} {ds : List PyData} (n : Nat), DtAll H vs ds → DtAll H (vs.take n) (ds.take n)
  | _, _, 0, _ => .nil
  | _, _, _ + 1, .nil => .nil
  | _, _, n + 1, .cons h t => .cons h (DtAll.take n t)
theorem DtAll.set {H : Hp} {v : V} {d : PyData} (hv : Dt H v d) : ∀ {vs : List V} {ds : List PyData} (n : Nat), DtAll H vs ds → DtAll H (vs.set n v) (ds.set n d)
  | _, _, _, .nil => .nil
  | _, _, 0, .cons _ t => .cons hv t
  | _, _, n + 1, .cons h t => .cons h (DtAll.set hv n t)

/-! ### the heap without one object -/
def wo (p : Addr) (H : Hp) : Hp := fun a => if a = p then none else H a
theorem wo_ne {p a : Addr} {H : Hp} (h : a ≠ p) : wo p H a = H a := if_neg h
theorem wo_same {p : Addr} {H : Hp} : wo p H p = none := if_pos rfl
theorem wo_some {p a : Addr} {H : Hp} {o : HO} (h : wo p H a = some o) : a ≠ p ∧ H a = some o := by
  by_cases e : a = p
  · subst e
    rw [wo_same] at h
    cases h
  · rw [wo_ne e] at h
    exact ⟨e, h⟩
theorem wo_ex (p : Addr) (H : Hp) : Ex (wo p H) H := fun a o h => (wo_some h).2
theorem Ex.wo {p : Addr} {H H' : Hp} (e : Ex H H') : Ex (Cr.wo p H) (Cr.wo p H') := fun a o h => by
  obtain ⟨n, h⟩ := wo_some h
  rw [wo_ne n]
  exact e a o h
theorem wo_upd {p : Addr} {H H' : Hp} {o : HO} (e : Ex (wo p H) (wo p H')) : Ex (wo p H) (wo p (upd H' p o)) := fun a u h => by
  have n := (wo_some h).1
  have q := e a u h
  rw [wo_ne n] at q
  rw [wo_ne n, upd_ne n]
  exact q

/-! ### the kind of data -/
def tyT : PyData → String
  | .none => "NoneType"
  | .bool _ => "bool"
  | .int _ => "int"
  | .str _ => "str"
  | .list _ => "list"
  | .tuple _ => "tuple"
  | .dict _ => "dict"
theorem Dt.ty {K : PySem.W.Frag} {H : Hp} {v : V} {d : PyData} (h : Dt H v d) : TyX K H v (.type (tyT d)) := by
  cases h with
  | non => exact .base .non
  | bl b => exact .base (.bl b)
  | int i => exact .base (.int i)
  | str x => exact .base (.str x)
  | lst h _ => exact .base (.lst h)
  | tup h _ => exact .base (.tup h)
  | dct h _ => exact .base (.dK h)
/-- isinstance(v, T), T one of the plain types -/
def isTs (T t : String) : Bool := t == T || (T == "int" && t == "bool")
def isT (T : String) (d : PyData) : Bool := isTs T (tyT d)
theorem kitS : ∀ t ∈ ["NoneType", "bool", "int", "str", "list", "tuple", "dict"], ∀ T ∈ ["int", "bool", "str", "list", "tuple", "dict"], kitB t T = some (isTs T t) := by decide +kernel
theorem tyT_mem (d : PyData) : tyT d ∈ ["NoneType", "bool", "int", "str", "list", "tuple", "dict"] := by
  cases d <;> simp [tyT]
theorem kit_isT {K : PySem.W.Frag} {T : String} (hT : T ∈ ["int", "bool", "str", "list", "tuple", "dict"]) (d : PyData) :
    PySem.W.kitOne K (.type (tyT d)) (.type T) = some (isT T d) := kit_ty (kitS _ (tyT_mem d) _ hT)
/-- isinstance on data -/
theorem rc_isi {K : PySem.W.Frag} {H : Hp} {v : V} {d : PyData} {T : String} (h : Dt H v d) (hT : T ∈ ["int", "bool", "str", "list", "tuple", "dict"]) :
    RC (rIsi K) [v, .ty T] H (.bl (isT T d)) := fun H1 e Q q =>
  ⟨v, .ty T, .type (tyT d), .type T, isT T d, rfl, .ty T, (Dt.ex e h).ty, kit_isT hT d, q H1 (Ex.refl H1)⟩

/-! ### repr -/
section
variable {X : Cx} {pins : List (Addr × Obj)} {σ : L2.St} {H : Hp} {s : Shared}
/-- what is shown of a value, at any heap that keeps this one -/
def Shown (P : Program) (w : World) (h : Heap) (v : Value) (d : PyData) : Prop :=
  (∃ as, Reads h v d as) ∧ (d.showable = true → d.shown.length ≤ sizeLine → ∃ bs, ReadAtMost h d.depth bs ∧ ReprK P w bs h d.depth v d.shown)
def ShownAll (P : Program) (w : World) (h : Heap) (vs : List Value) (ds : List PyData) : Prop :=
  (∃ as, ReadsAll h vs ds as) ∧ (PyData.showableAll ds = true → (∀ t ∈ PyData.shownAll ds, t.length ≤ sizeLine) →
    ∃ bs, ReadAtMost h (PyData.depthAll ds) bs ∧ ReprAllK P w bs h (PyData.depthAll ds) vs (PyData.shownAll ds))
theorem ShownAll.nil {P : Program} {w : World} {h : Heap} : ShownAll P w h [] [] :=
  ⟨⟨_, .nil⟩, fun _ _ => ⟨[], (fun _ z => nomatch z), by rw [PyData.shownAll]; exact .nil⟩⟩
theorem ShownAll.cons {P : Program} {w : World} {h : Heap} {v : Value} {vs : List Value} {d : PyData} {ds : List PyData} (a : Shown P w h v d) (b : ShownAll P w h vs ds) : ShownAll P w h (v :: vs) (d :: ds) := by
  obtain ⟨⟨as, ra⟩, sa⟩ := a
  obtain ⟨⟨bs, rb⟩, sb⟩ := b
  refine ⟨⟨_, .cons ra rb⟩, fun hs hz => ?_⟩
  rw [PyData.showableAll, Bool.and_eq_true] at hs
  rw [PyData.shownAll] at hz
  obtain ⟨b1, m1, k1⟩ := sa hs.1 (hz _ (List.mem_cons_self ..))
  obtain ⟨b2, m2, k2⟩ := sb hs.2 fun t ht => hz t (List.mem_cons_of_mem _ ht)
  refine ⟨b1 ++ b2, ?_, ?_⟩
  · rw [PyData.depthAll]
    exact (m1.mono (Nat.le_max_left _ _)).append (m2.mono (Nat.le_max_right _ _))
  · rw [PyData.depthAll, PyData.shownAll]
    exact .cons ((k1.more fun b hb => List.mem_append_left _ hb).level_le (Nat.le_max_left _ _)) (k2.more_le (fun b hb => List.mem_append_right _ hb) (Nat.le_max_right _ _))
theorem Shown.list {P : Program} {w : World} {h : Heap} {a : Addr} {o : Obj} {vs : List Value} {n : Nat} {ds : List PyData} (g : h.get? a = some o) (c : o.cls = .type "list") (e : o.data = .seq vs.toArray n) (S : ShownAll P w h vs ds) : Shown P w h (.ref a) (.list ds) := by
  obtain ⟨⟨as, ra⟩, sa⟩ := S
  have R : Reads h (.ref a) (.list ds) (a :: as) := .list g c e (by simpa using ra)
  refine ⟨⟨_, R⟩, fun hs hz => ?_⟩
  rw [PyData.showable] at hs
  rw [PyData.shown] at hz
  obtain ⟨bs, m, k⟩ := sa hs fun t ht => Nat.le_trans (listText_mem_le ht) hz
  have no : a ∉ bs := not_mem_of_deeper R (by rw [PyData.depth]; omega) m
  refine ⟨a :: bs, ReadAtMost.cons R (by rw [PyData.depth]; omega) m, ?_⟩
  rw [PyData.depth, PyData.shown]
  cases vs with
  | nil =>
    cases ra
    rw [PyData.shownAll, listText_nil]
    exact ReprK.listEmpty g c e
  | cons x l => exact ReprK.list g c e no (by simpa using k.length_eq) fun i y q => k.item i y (by simpa using q)
theorem Shown.tuple {P : Program} {w : World} {h : Heap} {a : Addr} {o : Obj} {vs : List Value} {n : Nat} {ds : List PyData} (g : h.get? a = some o) (c : o.cls = .type "tuple") (e : o.data = .seq vs.toArray n) (S : ShownAll P w h vs ds) : Shown P w h (.ref a) (.tuple ds) := by
  obtain ⟨⟨as, ra⟩, sa⟩ := S
  have R : Reads h (.ref a) (.tuple ds) as := .tuple g c e (by simpa using ra)
  refine ⟨⟨_, R⟩, fun hs hz => ?_⟩
  rw [PyData.showable] at hs
  rw [PyData.shown] at hz
  obtain ⟨bs, m, k⟩ := sa hs fun t ht => Nat.le_trans (tupleText_mem_le ht) hz
  refine ⟨a :: bs, ReadAtMost.cons R (by rw [PyData.depth]; omega) m, ?_⟩
  rw [PyData.depth, PyData.shown]
  exact ReprK.tuple g c e (not_mem_of_deeper R (by rw [PyData.depth]; omega) m) (by simpa using k)
theorem Shown.dict {P : Program} {w : World} {h : Heap} {a : Addr} {o : Obj} {es : Array DictEntry} {n : Nat} {kvs : List (PyData × PyData)} (g : h.get? a = some o) (c : o.cls = .type "dict") (e : o.data = .dict es n) (sys : (a == sysModules) = false)
    (S1 : ShownAll P w h (es.toList.map (·.key)) (kvs.map (·.1))) (S2 : ShownAll P w h (es.toList.map (·.val)) (kvs.map (·.2))) : Shown P w h (.ref a) (.dict kvs) := by
  obtain ⟨⟨as, ra⟩, sa⟩ := S1
  obtain ⟨⟨bs, rb⟩, sb⟩ := S2
  have R : Reads h (.ref a) (.dict kvs) (a :: as ++ bs) := .dict g c e ra rb
  refine ⟨⟨_, R⟩, fun hs hz => ?_⟩
  rw [PyData.showable] at hs
  rw [PyData.shown] at hz
  obtain ⟨h1, h2⟩ := PyData.showableKv_split kvs hs
  obtain ⟨b1, m1, k1⟩ := sa h1 fun t ht => let ⟨p, hp, hl⟩ := PyData.shownKv_key_le kvs t ht; Nat.le_trans hl (Nat.le_trans (dictText_mem_le hp) hz)
  obtain ⟨b2, m2, k2⟩ := sb h2 fun t ht => let ⟨p, hp, hl⟩ := PyData.shownKv_val_le kvs t ht; Nat.le_trans hl (Nat.le_trans (dictText_mem_le hp) hz)
  have m := (m1.mono (PyData.depthAll_keys_le kvs)).append (m2.mono (PyData.depthAll_vals_le kvs))
  refine ⟨a :: (b1 ++ b2), ReadAtMost.cons R (by rw [PyData.depth]; omega) m, ?_⟩
  rw [PyData.depth, PyData.shown, PyData.shownKv_eq]
  refine ReprK.dict g c e sys (not_mem_of_deeper R (by rw [PyData.depth]; omega) m) ?_
  exact ReprEntriesK.of_two es.toList _ _ (k1.more_le (fun b hb => List.mem_append_left _ hb) (PyData.depthAll_keys_le kvs)) (k2.more_le (fun b hb => List.mem_append_right _ hb) (PyData.depthAll_vals_le kvs))
theorem Shown.key {P : Program} {w : World} {h : Heap} {k : Key} {v : Value} (q : keyIs k v = true) : Shown P w h v (kD k) := by
  rcases keyIs_shape q with ⟨i, t, rfl, rfl⟩ | ⟨x, t, rfl, rfl⟩
  · refine ⟨⟨_, Reads.int i t⟩, fun hs _ => ⟨[], (fun _ z => nomatch z), ?_⟩⟩
    simp only [kD, PyData.shown]
    exact .of_is (ReprIs.int t (by simpa [kD, PyData.showable] using hs)) _ _ _
  · refine ⟨⟨_, Reads.str x t⟩, fun _ hz => ⟨[], (fun _ z => nomatch z), ?_⟩⟩
    simp only [kD, PyData.shown] at hz ⊢
    exact .of_is (ReprIs.str x t hz) _ _ _
/-- keys and values of a tracked dict -/
theorem shown_pairs {P : Program} {w : World} {h : Heap} : ∀ {kvs : List (Key × V)} {us : List (Key × Value)} {es : List DictEntry} {ds : List (PyData × PyData)},
    KV kvs us → PySem.Pairs (mixKind P w) es us → (∀ (i : Nat) (k : Key) (v : V) (u : Value), kvs[i]? = some (k, v) → RelV v u → ∃ d, ds[i]? = some (kD k, d) ∧ Shown P w h u d) → kvs.length = ds.length →
    ShownAll P w h (es.map (·.key)) (ds.map (·.1)) ∧ ShownAll P w h (es.map (·.val)) (ds.map (·.2))
  | [], _, _, ds, kv, ps, _, hl => by
    cases kv
    cases ps
    cases ds with
    | nil => exact ⟨.nil, .nil⟩
    | cons x r => simp at hl
  | (k, v) :: r, _, _, ds, kv, ps, hv, hl => by
    cases kv with
    | cons h1 h2 =>
      rename_i q us'
      obtain ⟨e1, rv⟩ := h1
      cases ps with
      | cons p1 p2 p3 =>
        obtain ⟨d, ed, sd⟩ := hv 0 k v q.2 rfl rv
        cases ds with
        | nil => simp at hl
        | cons x ds' =>
          simp at ed
          subst ed
          have ih := shown_pairs h2 p3 (ds := ds') (fun i k' v' u' e r' => by
            obtain ⟨d', g1, g2⟩ := hv (i + 1) k' v' u' (by simpa using e) r'
            exact ⟨d', by simpa using g1, g2⟩) (by simpa using hl)
          have e1' : k = q.1 := e1
          rw [List.map_cons, List.map_cons, List.map_cons, List.map_cons]
          refine ⟨.cons (Shown.key (k := k) ?_) ih.1, .cons ?_ ih.2⟩
          · rw [e1']
            exact p1
          · show Shown P w h _ d
            rw [p2]
            exact sd
mutual
theorem Dt.shown (I : Inv X pins σ H s) : ∀ {v : V} {d : PyData}, Dt H v d → ∀ {u : Value}, RelV v u → Shown X.prog X.w s.heap u d
  | _, _, .non, _, r => by
    cases r
    exact ⟨⟨_, Reads.none⟩, fun _ _ => ⟨[], (fun _ z => nomatch z), by rw [PyData.shown]; exact .of_is ReprIs.none _ _ _⟩⟩
  | _, _, .bl b, _, r => by
    cases r
    exact ⟨⟨_, Reads.bool b⟩, fun _ _ => ⟨[], (fun _ z => nomatch z), by rw [PyData.shown]; exact .of_is (ReprIs.bool b) _ _ _⟩⟩
  | _, _, .int i, _, r => Shown.key (k := .inl i) (by obtain ⟨t, rfl⟩ := r; exact keyIs_int i t)
  | _, _, .str x, _, r => Shown.key (k := .inr x) (by obtain ⟨t, rfl⟩ := r; exact keyIs_str x t)
  | _, _, .lst (a := a) (xs := xs) h t, _, r => by
    cases r
    obtain ⟨_, its, n, rv, g⟩ := (show ObjOk X.prog X.w H s.heap a (.lst xs) from I.hok a _ h)
    exact Shown.list g rfl rfl (DtAll.shown I t rv)
  | _, _, .tup (a := a) (xs := xs) h t, _, r => by
    cases r
    obtain ⟨_, its, rv, o, g, c, n, e⟩ := (show ObjOk X.prog X.w H s.heap a (.tup xs) from I.hok a _ h)
    exact Shown.tuple g c e (DtAll.shown I t rv)
  | _, _, .dct (a := a) (kvs := kvs) (es := ds) h t, _, r => by
    cases r
    obtain ⟨_, sys, us, kv, o, es, ep, g, ex, e, _, ps, _⟩ := (show ObjOk X.prog X.w H s.heap a (.dK kvs) from I.hok a _ h)
    obtain ⟨s1, s2⟩ := shown_pairs kv ps (fun i k v u q r => DtKv.shown I t i k v u q r) (DtKv.len t)
    exact Shown.dict g ex.1 e sys s1 s2
theorem DtAll.shown (I : Inv X pins σ H s) : ∀ {vs : List V} {ds : List PyData}, DtAll H vs ds → ∀ {us : List Value}, Vals vs us → ShownAll X.prog X.w s.heap us ds
  | _, _, .nil, _, r => by
    cases r
    exact .nil
  | _, _, .cons h t, _, r => by
    cases r with
    | cons r1 r2 => exact .cons (Dt.shown I h r1) (DtAll.shown I t r2)
theorem DtKv.shown (I : Inv X pins σ H s) : ∀ {kvs : List (Key × V)} {ds : List (PyData × PyData)}, DtKv H kvs ds → ∀ (i : Nat) (k : Key) (v : V) (u : Value), kvs[i]? = some (k, v) → RelV v u → ∃ d, ds[i]? = some (kD k, d) ∧ Shown X.prog X.w s.heap u d
  | _, _, .nil, _, _, _, _, q, _ => by simp at q
  | _, _, .cons h t, 0, k, v, u, q, r => by
    simp at q
    obtain ⟨rfl, rfl⟩ := q
    exact ⟨_, rfl, Dt.shown I h r⟩
  | _, _, .cons h t, i + 1, k, v, u, q, r => by
    obtain ⟨d, g1, g2⟩ := DtKv.shown I t i k v u (by simpa using q) r
    exact ⟨d, by simpa using g1, g2⟩
end
end
end Cr
/-! Cr, part 3: repr as a rule; zip of a text and a tuple. -/
namespace Cr
open PySem PySem.Spec PyProof.Rows L2 Evl

/-- data whose text is short enough -/
structure Fits (d : PyData) : Prop where
  show1 : d.showable = true
  deep : d.depth ≤ 50
  size : d.shown.length ≤ sizeLine

def rRepr : List V → Hp → VK → Prop := fun xs H Q => ∃ v d, xs = [v] ∧ Dt H v d ∧ Fits d ∧ Q (.str d.shown) H
theorem call_reprG {X : Cx} (hq : Quiet X.A) (hu : X.A.units + 64 < cLine) : CallR X (.builtin "repr") rRepr := by
  intro pins s σ H xs us Q I r h
  obtain ⟨v, d, rfl, hd, fit, q⟩ := h
  obtain ⟨u, rfl, ru⟩ := vals1 r
  have fin : ∀ (h' : Heap) (t tk : Nat), (∀ b o, s.heap.get? b = some o → h'.get? b = some o) → EP X pins σ Q (.str d.shown t) { s with heap := h', toks := tk } :=
    fun h' t tk hk => ⟨.str d.shown, H, I.kept hk, ⟨t, rfl⟩, q⟩
  have dp := fit.deep
  have sz := fit.size
  have sw := fit.show1
  cases hd with
  | non =>
    cases ru
    rw [PyData.shown] at q
    exact PySem.P.repr_of_none ⟨.str _, H, I.tok _, ⟨_, rfl⟩, q⟩
  | bl b =>
    cases ru
    rw [PyData.shown] at q
    exact PySem.P.repr_of_bool ⟨.str _, H, I.tok _, ⟨_, by cases b <;> rfl⟩, q⟩
  | int i =>
    obtain ⟨t, rfl⟩ := ru
    rw [PyData.shown] at q
    exact PySem.P.repr_of_int (by simpa [PyData.showable] using sw) ⟨.str _, H, I.tok _, ⟨_, rfl⟩, q⟩
  | str x =>
    obtain ⟨t, rfl⟩ := ru
    rw [PyData.shown] at q sz
    exact PySem.P.repr_of_str ⟨.str _, H, I.tok _, ⟨_, rfl⟩, q⟩ sz
  | @lst a xs ds h t =>
    cases ru
    obtain ⟨_, its, n, rv, g⟩ := (show ObjOk X.prog X.w H s.heap a (.lst xs) from I.hok a _ h)
    have S : ShownAll X.prog X.w s.heap its ds := DtAll.shown I t rv
    obtain ⟨⟨as, ra⟩, sa⟩ := S
    rw [PyData.showable] at sw
    rw [PyData.depth] at dp
    have R : Reads s.heap (.ref a) (.list ds) (a :: as) := .list g rfl rfl (by simpa using ra)
    rw [PyData.shown] at sz
    obtain ⟨bs, m, k⟩ := sa sw fun t ht => Nat.le_trans (listText_mem_le ht) sz
    have no : a ∉ bs := not_mem_of_deeper R (by rw [PyData.depth]; omega) m
    refine call_repr_slot (by omega) ⟨_, g, rfl⟩ F.slot_list_repr.toG ?_
    cases its with
    | nil =>
      cases ra
      refine call_list_repr_empty ⟨_, g, rfl⟩ g rfl ?_
      refine ⟨_, _, rfl, ?_⟩
      have e : (PyData.list []).shown = ("[]" : Str) := by rw [PyData.shown, PyData.shownAll, listText_nil]
      rw [e] at fin
      exact fin s.heap _ _ fun _ _ z => z
    | cons x l =>
      refine call_list_reprK (s := s) g rfl rfl no (by simpa using k.length_eq) (fun i y e => k.item i y (by simpa using e)) hq (fun b _ => Clear.nil b) (show X.A.units + 1 + (PyData.depthAll ds + 1) < cLine by omega) (fun _ _ z => z) (fun h' t tk hk => ?_) sz
      refine ⟨_, _, rfl, ?_⟩
      have z := fin h' t tk hk
      rw [PyData.shown] at z
      exact z
  | @tup a xs ds h t =>
    cases ru
    obtain ⟨_, its, rv, o, g, c, n, e⟩ := (show ObjOk X.prog X.w H s.heap a (.tup xs) from I.hok a _ h)
    have S : ShownAll X.prog X.w s.heap its ds := DtAll.shown I t rv
    obtain ⟨⟨as, ra⟩, sa⟩ := S
    rw [PyData.showable] at sw
    rw [PyData.depth] at dp
    have R : Reads s.heap (.ref a) (.tuple ds) as := .tuple g c e (by simpa using ra)
    rw [PyData.shown] at sz
    obtain ⟨bs, m, k⟩ := sa sw fun t ht => Nat.le_trans (tupleText_mem_le ht) sz
    have no : a ∉ bs := not_mem_of_deeper R (by rw [PyData.depth]; omega) m
    refine call_repr_slot (by omega) ⟨_, g, c⟩ F.slot_tuple_repr ?_
    refine call_tuple_reprK (s := s) g c e no (by simpa using k) hq (fun b _ => Clear.nil b) (show X.A.units + 1 + (PyData.depthAll ds + 1) < cLine by omega) (fun _ _ z => z) (fun h' t tk hk => ?_) sz
    refine ⟨_, _, rfl, ?_⟩
    have z := fin h' t tk hk
    rw [PyData.shown] at z
    exact z
  | @dct a kvs ds h t =>
    cases ru
    obtain ⟨_, sys, us, kv, o, es, ep, g, ex, e, _, ps, _⟩ := (show ObjOk X.prog X.w H s.heap a (.dK kvs) from I.hok a _ h)
    obtain ⟨s1, s2⟩ := shown_pairs kv ps (fun i k v u q r => DtKv.shown I t i k v u q r) (DtKv.len t)
    obtain ⟨⟨as, ra⟩, sa⟩ := s1
    obtain ⟨⟨bs, rb⟩, sb⟩ := s2
    rw [PyData.showable] at sw
    rw [PyData.depth] at dp
    have R : Reads s.heap (.ref a) (.dict ds) (a :: as ++ bs) := .dict g ex.1 e ra rb
    have sz2 := sz
    rw [PyData.shown] at sz
    obtain ⟨w1, w2⟩ := PyData.showableKv_split ds sw
    obtain ⟨b1, m1, k1⟩ := sa w1 fun t ht => let ⟨p, hp, hl⟩ := PyData.shownKv_key_le ds t ht; Nat.le_trans hl (Nat.le_trans (dictText_mem_le hp) sz)
    obtain ⟨b2, m2, k2⟩ := sb w2 fun t ht => let ⟨p, hp, hl⟩ := PyData.shownKv_val_le ds t ht; Nat.le_trans hl (Nat.le_trans (dictText_mem_le hp) sz)
    have m := (m1.mono (PyData.depthAll_keys_le ds)).append (m2.mono (PyData.depthAll_vals_le ds))
    refine call_repr_slot (by omega) ⟨_, g, ex.1⟩ F.slot_dict_repr ?_
    refine call_dict_reprK (s := s) g ex.1 e sys (not_mem_of_deeper R (by rw [PyData.depth]; omega) m) (ReprEntriesK.of_two es.toList _ _ (k1.more_le (fun b hb => List.mem_append_left _ hb) (PyData.depthAll_keys_le ds)) (k2.more_le (fun b hb => List.mem_append_right _ hb) (PyData.depthAll_vals_le ds)))
      hq (fun b _ => Clear.nil b) (show X.A.units + 1 + (PyData.depthKv ds + 1) < cLine by omega) (fun _ _ z => z) (fun h' t tk hk => ?_) (by rw [← PyData.shownKv_eq]; exact sz)
    refine ⟨_, _, rfl, ?_⟩
    have z := fin h' t tk hk
    rw [PyData.shown, PyData.shownKv_eq] at z
    exact z
theorem rc_repr {H : Hp} {v : V} {d : PyData} (h : Dt H v d) (f : Fits d) : RC rRepr [v] H (.str d.shown) := fun H1 e Q q =>
  ⟨v, d, rfl, Dt.ex e h, f, q H1 (Ex.refl H1)⟩
end Cr
/-! Cr, part 4: zip of a text and a tuple; comprehensions over any walk. -/
namespace Cr
open PySem PySem.Spec PyProof.Rows L2 Evl

/-- zip of the text z and the tuple at b: new pairs -/
def ItzS (K : PySem.W.Frag) (z : Str) (b : Addr) : It where
  go := fun i H => ∃ (ys : List V) (c : Nat) (y : V), SqT K H b ys ∧ z.cps[i]? = some c ∧ ys[i]? = some y
  yld := fun i H v H' => ∃ T c y, v = .ref T ∧ H T = none ∧ H' = upd H T (.tup [.str ⟨#[c]⟩, y]) ∧ z.cps[i]? = some c ∧ ∀ ys, SqT K H b ys → ys[i]? = some y
  stop := fun i H => ∃ ys : List V, SqT K H b ys ∧ i ≤ z.cps.size ∧ i ≤ ys.length ∧ (i = z.cps.size ∨ i = ys.length)

theorem zipSep (I b : Nat) (h2 : b < I) : ZipSep2 (I + 4) (I + 2) (I + 3) I (I + 1) [I] [I + 1, b] := by
  constructor <;> (try simp) <;> (intro e; have e' : (_ : Nat) = _ := e; omega)

section
variable {prog : Program} {w : World} {A : Around} {E : Value → Shared → Prop} {s : Shared}
theorem next_zipS {z TI TO i1 i2 : Addr} {fp1 fp2 : List Addr} {n1 n2 i : Nat} {P1 P2 : Nat → Value → Prop} {St1 St2 : Nat → Heap → Prop} {a1 a2 : Value} {Q : Option Value → Shared → Prop}
    (S : ZipSep2 z TI TO i1 i2 fp1 fp2) (D1 : Draws prog w A.in1 i1 fp1 n1 P1 St1) (D2 : Draws prog w A.in1 i2 fp2 n2 P2 St2)
    (hz : IsZip s.heap z TI TO .none) (hTI : IsTupOf2 s.heap TI (.ref i1) (.ref i2)) (hTO : IsTupOf2 s.heap TO a1 a2) (st1 : St1 i s.heap) (st2 : St2 i s.heap) (h1 : i < n1) (h2 : i < n2)
    (hQ : ∀ x1 x2 h' tk, P1 i x1 → P2 i x2 → IsZip h' z TI TO (rawInt s.heap.objs.size) → IsTupOf2 h' TO x1 x2 → St1 (i + 1) h' → St2 (i + 1) h' → IsTupOf2 h' s.heap.objs.size x1 x2 →
      (∀ c o, c ≠ z → c ≠ TO → c ≠ i1 → c ≠ i2 → s.heap.get? c = some o → h'.get? c = some o) → Q (some (.ref s.heap.objs.size)) { s with heap := h', toks := tk }) :
    wpAny (model prog w) A (pyNext (.ref z)) Q E s := by
  have hT : s.TypeIs (.ref z) "zip" := ⟨_, hz, rfl⟩
  unfold pyNext
  refine wpAny_bind (wpAny_attempt (wpAny_callSpecial?_slot (name := Str.ofString "__next__") hT F.slot_zip_next (wpAny_call_entry F.slot_zip_next hT F.entry_zip_next ?_ (F.args_zip_next_1 _))))
  exact zipD2_next_item S D1 D2 hz hTI hTO st1 st2 h1 h2 fun x1 x2 h' tk p1 p2 g1 g2 g3 g4 g5 g6 g7 => wpAny_pure (hQ x1 x2 h' tk p1 p2 g1 g2 g3 g4 g5 g7)
theorem next_zipS_end {z TI TO i1 i2 : Addr} {fp1 fp2 : List Addr} {n1 n2 i : Nat} {P1 P2 : Nat → Value → Prop} {St1 St2 : Nat → Heap → Prop} {a1 a2 : Value} {Q : Option Value → Shared → Prop}
    (S : ZipSep2 z TI TO i1 i2 fp1 fp2) (D1 : Draws prog w A.in1 i1 fp1 n1 P1 St1) (D2 : Draws prog w A.in1 i2 fp2 n2 P2 St2)
    (hz : IsZip s.heap z TI TO .none) (hTI : IsTupOf2 s.heap TI (.ref i1) (.ref i2)) (hTO : IsTupOf2 s.heap TO a1 a2) (st1 : St1 i s.heap) (st2 : St2 i s.heap) (h1 : i ≤ n1) (h2 : i ≤ n2) (he : i = n1 ∨ i = n2)
    (hQ : ∀ h' tk, (∀ c o, c ≠ z → c ≠ TO → c ≠ i1 → c ≠ i2 → s.heap.get? c = some o → h'.get? c = some o) → Q none { s with heap := h', toks := tk }) :
    wpAny (model prog w) A (pyNext (.ref z)) Q E s := by
  have hT : s.TypeIs (.ref z) "zip" := ⟨_, hz, rfl⟩
  unfold pyNext
  refine wpAny_bind (wpAny_attempt (wpAny_callSpecial?_slot (name := Str.ofString "__next__") hT F.slot_zip_next (wpAny_call_entry F.slot_zip_next hT F.entry_zip_next ?_ (F.args_zip_next_1 _))))
  refine zipD2_next_end S D1 D2 hz hTI hTO st1 st2 h1 h2 he fun h' tk e hk hex => ?_
  obtain ⟨o, ho, hc⟩ := hex
  refine wpAny_bind (wpAny_isInstance (T := "StopIteration") (b := true) ⟨o, ho, hc⟩ isSubtype_stop ?_)
  exact wpAny_pure (hQ h' tk hk)
end

theorem turn_zipS {P : Program} {w : World} {K : PySem.W.Frag} {elts : List Expr} {kk : Nat} {tpos : Pos} {x : Str} {t : Tok} {b z TI TO i1 i2 : Addr} (D : ZipSep2 z TI TO i1 i2 [i1] [i2, b]) (hb2 : b ≠ i2) :
    Turn P w K (.Tuple elts kk tpos) (ItzS K x b) [z, TI, TO, i1, i2] z (fun i h => IsZip h z TI TO .none ∧ IsTupOf2 h TI (.ref i1) (.ref i2) ∧ (∃ u v, IsTupOf2 h TO u v) ∧ h.IsStrIter i1 (strIterType x) x t i ∧ h.IsTupleIter i2 b i) where
  mem := List.mem_cons_self ..
  obj := fun i h st c hc => by
    obtain ⟨hz, hTI, ⟨u, v, hTO⟩, ⟨o1, e1, _, d1⟩, ⟨o2, e2, _, d2⟩⟩ := st
    simp only [List.mem_cons, List.not_mem_nil, or_false] at hc
    rcases hc with rfl | rfl | rfl | rfl | rfl
    · exact ⟨_, hz, fun _ q => nomatch q⟩
    · exact ⟨_, hTI, fun _ q => nomatch q⟩
    · exact ⟨_, hTO, fun _ q => nomatch q⟩
    · exact ⟨o1, e1, fun _ q => by rw [d1] at q; cases q⟩
    · exact ⟨o2, e2, fun _ q => by rw [d2] at q; cases q⟩
  keep := fun i h h' st k => by
    obtain ⟨hz, hTI, ⟨u, v, hTO⟩, ⟨o1, e1, r1⟩, h2⟩ := st
    exact ⟨k z (by simp) _ hz, k TI (by simp) _ hTI, ⟨u, v, k TO (by simp) _ hTO⟩, ⟨o1, k i1 (by simp) o1 e1, r1⟩, h2.at fun o q => k i2 (by simp) o q⟩
  item := by
    intro X hP hw hK hc i pins s σ H E I hf st hg
    subst hP hw hK
    obtain ⟨hz, hTI, ⟨u0, v0, hTO⟩, h1, h2⟩ := st
    obtain ⟨ys, c, y, hqy, hx, hy⟩ := hg
    obtain ⟨its, rv, p, _⟩ := I.tuple hqy
    obtain ⟨u2, hu2, ru2⟩ := rv.get hy
    have hzl : z < s.heap.objs.size := Heap.lt_size hz
    have hi1 : i < x.cps.size := (Array.getElem?_eq_some_iff.mp hx).1
    have hi2 : i < its.toArray.size := by
      have := (List.getElem?_eq_some_iff.mp hu2).1
      simpa using this
    refine next_zipS D (Draws.text (A := X.A.in1) (I.ok.hd hc) i1 x t) (Draws.tuple (A := X.A.in1) (I.ok.hd hc) i2 b hb2 its.toArray) hz hTI hTO h1 ⟨h2, p⟩ hi1 hi2 ?_
    rintro x1 x2 h' tk ⟨c', u', hc', rfl⟩ p2 z' TO' h1' ⟨h2', _⟩ hT hk
    have ec : c' = c := Option.some.inj (hc'.symm.trans hx)
    have e2 : x2 = u2 := by
      have q : its.toArray[i]? = some u2 := by simpa using hu2
      exact Option.some.inj (p2.symm.trans q)
    subst ec e2
    refine ⟨_, rfl, wpAny_letOwnedTupleGo_zip (s := { s with heap := h', toks := tk }) z' fun h'' z'' sb => ?_⟩
    have hT2 : h''.get? s.heap.objs.size = some { cls := .type "tuple", data := .seq #[.str ⟨#[c']⟩ u', x2] } := (sb.2 _ (Nat.ne_of_gt hzl)).trans hT
    have new : ObjOk X.prog X.w (upd H s.heap.objs.size (.tup [.str ⟨#[c']⟩, y])) h'' s.heap.objs.size (.tup [.str ⟨#[c']⟩, y]) :=
      ⟨by show 2 ≤ sizeLine; decide, [.str ⟨#[c']⟩ u', x2], .cons ⟨u', rfl⟩ (.cons ru2 .nil), ⟨_, hT2, rfl, _, rfl⟩⟩
    have kept : ∀ d o, d ∉ [z, TI, TO, i1, i2] → s.heap.get? d = some o → h''.get? d = some o := fun d o hd q => by
      simp only [List.mem_cons, List.not_mem_nil, or_false, not_or] at hd
      exact (sb.2 d hd.1).trans (hk d o hd.1 hd.2.2.1 hd.2.2.2.1 hd.2.2.2.2 q)
    have I1 := I.turnedNew (t' := tk) (ch := [z, TI, TO, i1, i2]) kept hf (Nat.le_refl _) new
    obtain ⟨o1, e1, r1⟩ := h1'
    refine ⟨.ref s.heap.objs.size, _, I1, rfl, ⟨_, c', y, rfl, I.hok.fresh (Nat.le_refl _), rfl, hx, fun l hl => by rw [I.tuple_inj hl hqy]; exact hy⟩, ⟨z'', ?_, ⟨.str ⟨#[c']⟩ u', x2, ?_⟩, ?_, ?_⟩, fun d hd => ?_⟩
    · exact (sb.2 _ D.TIz).trans (hk _ _ D.TIz D.TITO D.TIi1 D.TIi2 hTI)
    · exact (sb.2 _ D.TOz).trans TO'
    · exact ⟨o1, (sb.2 _ D.zi1.symm).trans e1, r1⟩
    · exact h2'.at fun o q => (sb.2 _ D.zi2.symm).trans q
    · have hlt : d < s.heap.objs.size := by
        have hd' := hd
        simp only [List.mem_cons, List.not_mem_nil, or_false] at hd'
        rcases hd' with rfl | rfl | rfl | rfl | rfl
        · exact hzl
        · exact Heap.lt_size hTI
        · exact Heap.lt_size hTO
        · obtain ⟨_, e1, _⟩ := h1
          exact Heap.lt_size e1
        · obtain ⟨_, e2, _⟩ := h2
          exact Heap.lt_size e2
      rw [upd_ne (Nat.ne_of_lt hlt)]
      exact (hf d hd).1
  done := by
    intro X hP hw hK hc i pins s σ H E I hf st hg
    subst hP hw hK
    obtain ⟨hz, hTI, ⟨u0, v0, hTO⟩, h1, h2⟩ := st
    obtain ⟨ys, hqy, l1, l2, hend⟩ := hg
    obtain ⟨its, rv, p, _⟩ := I.tuple hqy
    have len := rv.length
    refine next_zipS_end D (Draws.text (A := X.A.in1) (I.ok.hd hc) i1 x t) (Draws.tuple (A := X.A.in1) (I.ok.hd hc) i2 b hb2 its.toArray) hz hTI hTO h1 ⟨h2, p⟩ l1 (by simp; omega) (by rcases hend with q | q; exact .inl q; exact .inr (by simp; omega)) ?_
    intro h' tk hk
    refine ⟨rfl, I.turnedL (t' := tk) (ch := [z, TI, TO, i1, i2]) (fun d o hd q => ?_) hf⟩
    simp only [List.mem_cons, List.not_mem_nil, or_false, not_or] at hd
    exact hk d o hd.1 hd.2.2.1 hd.2.2.2.1 hd.2.2.2.2 q
  self := fun A i s Q E st h => wpAny_pyIter_zip st.1 h

def iZipS (K : PySem.W.Frag) (ta : TA) : TI := fun σ H R => ta σ H fun vs H1 => ∃ x b ys, vs = [.str x, .ref b] ∧ SqT K H1 b ys ∧ R (ItzS K x b) H1
theorem pi_zipS {X : Cx} {e e2 : Expr} {ta : TA} {p pos tpos : Pos} {elts : List Expr} {kk : Nat} (hg : Gl X "zip") (hm : X.mg "zip" = none) (ha : PA X [e, e2] ta)
    (hs : starEach [e, e2] X.env = (false, eval e X.env) :: starEach [e2] X.env := by rfl) (hpl : (backTo pos (starEach [e2] X.env)).any (·.1) = false := by rfl) :
    PI X (.Tuple elts kk tpos) (.Call (.Name "zip" p) [e, e2] [] pos) (iZipS X.K ta) := by
  constructor
  intro pins s σ H R I h
  refine Call_ (ld_blt I hg hm PyProof.Rows.boot_zip (PyProof.Rows.callWith_type1 (thn (ha.run pos pins s σ H _ I h) ?_) hs hpl))
  rintro us s1 ⟨vs, H1, I1, r1, x, b, ys, rfl, hqy, q⟩
  obtain ⟨u1, u2, rfl, ⟨t, rfl⟩, r2⟩ := vals2 r1
  cases (show u2 = Value.ref b from r2)
  obtain ⟨its, rv, p2, _⟩ := I1.tuple hqy
  obtain ⟨o2, ho2, _⟩ := id p2
  have hb : b < s1.heap.objs.size := Heap.lt_size ho2
  refine zip_begins2 (begins_text x t) (begins_tuple b its.toArray) trivial p2 ?_
  intro h' hz hTI hTO g1 g2 hsz hk
  refine wpAny_pyIter_zip (s := { s1 with heap := h' }) hz ?_
  have I2 : Inv X pins σ H1 { s1 with heap := h' } := I1.kept (t' := s1.toks) hk
  refine ⟨s1.heap.objs.size + 4, [s1.heap.objs.size + 4, s1.heap.objs.size + 2, s1.heap.objs.size + 3, s1.heap.objs.size, s1.heap.objs.size + 1], _, _, H1, rfl, I2,
    turn_zipS (t := t) (zipSep s1.heap.objs.size b hb) (Nat.ne_of_lt (Nat.lt_succ_of_lt hb)), ⟨hz, hTI, ⟨_, _, hTO⟩, ⟨_, g1, rfl, rfl⟩, ⟨_, g2, rfl, rfl⟩⟩, fun c hc => ?_, q⟩
  have hle : s1.heap.objs.size ≤ c := by
    simp only [List.mem_cons, List.not_mem_nil, or_false] at hc
    rcases hc with e | e | e | e | e <;> rw [e] <;> first | exact Nat.le_add_right _ _ | exact Nat.le_refl _
  exact I1.fpOk hle (I1.hok.fresh hle)

theorem walk_zipS {K : PySem.W.Frag} {x : Str} {b : Addr} {ys : List V} {n : Nat} (hn : n = min x.cps.size ys.length) :
    Walk (ItzS K x b) n (fun H => SqT K H b ys) (YPair (fun i => (x.cps[i]?).map fun c => .str ⟨#[c]⟩) fun i => ys[i]?) where
  goes := fun i H hi h => ⟨ys, x.cps[i]'(by omega), ys[i]'(by omega), h, by simp [show i < x.cps.size by omega], by simp [show i < ys.length by omega]⟩
  stops := fun H h => ⟨ys, h, by omega, by omega, by omega⟩
  yields := fun i H v H' hi h q => by
    obtain ⟨T, c, y, rfl, hT, rfl, hc, hy⟩ := q
    exact ⟨T, .str ⟨#[c]⟩, y, rfl, hT, rfl, by simp [hc], hy ys h⟩
theorem walk_zipT {K : PySem.W.Frag} {a b : Addr} {xs ys : List V} {n : Nat} (hn : n = min xs.length ys.length) :
    Walk (RZ.ItzT K a b) n (fun H => SqT K H a xs ∧ SqT K H b ys) (YPair (fun i => xs[i]?) fun i => ys[i]?) where
  goes := fun i H hi h => ⟨xs, ys, xs[i]'(by omega), ys[i]'(by omega), h.1, h.2, by simp [show i < xs.length by omega], by simp [show i < ys.length by omega]⟩
  stops := fun H h => ⟨xs, ys, h.1, h.2, by omega⟩
  yields := fun i H v H' hi h q => by
    obtain ⟨T, x, y, rfl, hT, rfl, hx, hy⟩ := q
    exact ⟨T, x, y, rfl, hT, rfl, hx xs h.1, hy ys h.2⟩

/-- a comprehension over any walk, which may be one of new things -/
theorem el_lcW {wi : TI} {g : TG} {tt : TT} {te : TE} {vs : List Nat} {σ : L2.St} {H : Hp} {n : Nat} {Y : Nat → Hp → V → Hp → Prop}
    (f : Nat → Bool) (v : Nat → V) (hn : n ≤ 40000)
    (hi : ∀ H1, Ex H H1 → ∀ R : It → Hp → Prop, (∀ H2 (J : It) (G : Hp → Prop), Walk J n G Y → (∀ H3 H4, Ex H3 H4 → G H3 → G H4) → Ex H1 H2 → G H2 → R J H2) → wi σ H1 R)
    (hs : ∀ i x H1 H2, Ex H H1 → i < n → Y i H1 x H2 → Ex H1 H2 ∧ ∃ σ2, wipe σ2 vs = wipe σ vs ∧ (∀ R : L2.St → Hp → Prop, R σ2 H2 → g x (wipe σ vs) H2 R) ∧ EvT tt σ2 H2 (f i) ∧ (f i = true → Ev te σ2 H2 (v i))) :
    EvL (tLc wi g tt te vs) σ H (given n f v) := by
  intro H0 e Q q
  refine hi H0 e _ fun H1 J G w hG e1 g1 D hD => ?_
  refine lc_it w (Cw H1 f v D) ⟨hD, Ex.new hD, upd_same⟩ (fun i H2 _ p => hG H1 H2 p.2.1 g1) (fun i x H2 H3 hlt p y => ?_) (fun H2 p => q D H2 (fresh_back e1 p.1) (e1.trans p.2.1) p.2.2)
  obtain ⟨p1, p2, p3⟩ := p
  obtain ⟨e2, σ2, hw, hgo, ht, he⟩ := hs i x H2 H3 ((e.trans e1).trans p2) hlt y
  refine hgo _ ⟨hw, ht H3 (Ex.refl H3) _ fun H4 e4 => ?_⟩
  cases hf : f i with
  | true =>
    rw [if_pos rfl]
    refine he hf H4 e4 _ fun H5 e5 => ⟨given i f v, e5 D _ (e4 D _ (e2 D _ p3)), sz_lt (by have := given_len i f v; omega), p1, Ex.mut (((p2.trans e2).trans e4).trans e5) p1, ?_⟩
    rw [given_yes hf]
    exact upd_same
  | false =>
    rw [if_neg Bool.false_ne_true]
    refine ⟨p1, (p2.trans e2).trans e4, ?_⟩
    rw [given_no hf]
    exact e4 D _ (e2 D _ p3)
end Cr
/-! Cr, part 5: small data, promises of one datum, evaluations that serve many defs. -/
namespace Cr
open PySem PySem.Spec PyProof.Rows L2 Evl

mutual
/-- texts and sequences of moderate size -/
def sm : PyData → Bool
  | .none | .bool _ | .int _ => true
  | .str x => decide (x.length ≤ 1000)
  | .list xs | .tuple xs => decide (xs.length ≤ 1000) && smAll xs
  | .dict _ => true
def smAll : List PyData → Bool
  | [] => true
  | x :: xs => sm x && smAll xs
end
theorem smAll_get : ∀ {ds : List PyData} {i : Nat} {d : PyData}, smAll ds = true → ds[i]? = some d → sm d = true
  | [], _, _, _, h => by simp at h
  | x :: xs, 0, d, h, e => by
    simp at e; subst e
    rw [smAll, Bool.and_eq_true] at h
    exact h.1
  | x :: xs, i + 1, d, h, e => by
    rw [smAll, Bool.and_eq_true] at h
    exact smAll_get h.2 (by simpa using e)

/-- a def that answers a datum with a bool -/
def spD (f : PyData → Bool) : Sp := fun vs H Q _ => ∃ v d, vs = [v] ∧ Dt H v d ∧ sm d = true ∧ ∀ H', Ex H H' → Q (.bl (f d)) H'
theorem spD_len {f : PyData → Bool} : ∀ vs H Q E, spD f vs H Q E → vs.length = 1 := fun vs H Q E h => by
  obtain ⟨v, d, rfl, _⟩ := h
  rfl
theorem spv_D {f : PyData → Bool} {H : Hp} {v : V} {d : PyData} (h : Dt H v d) (s : sm d = true) : SpV (spD f) [v] H (.bl (f d)) := fun H1 e Q q E =>
  ⟨v, d, rfl, Dt.ex e h, s, q⟩

section
variable {K : PySem.W.Frag} {σ : L2.St} {H : Hp} {ta tb tc te : TE} {x y z w v : V} {r r' : R2}
theorem ev_chain {k k' : Bool} (ha : Ev ta σ H x) (hb : Ev tb σ H y) (hr : RV r x y H (.bl k)) (hc : k = true → Ev tc σ H w) (hr' : k = true → RV r' y w H (.bl k')) : Ev (tChain r r' ta tb tc) σ H (.bl (k && k')) := fun H1 e Q q =>
  ha H1 e _ fun H2 e2 => hb H2 (e.trans e2) _ fun H3 e3 => hr H3 ((e.trans e2).trans e3) _ fun H4 e4 => ⟨k, rfl, by
    have e14 := (e2.trans e3).trans e4
    cases k with
    | true =>
      rw [if_pos rfl]
      exact hc rfl H4 (e.trans e14) _ fun H5 e5 => hr' rfl H5 ((e.trans e14).trans e5) Q fun H6 e6 => q H6 ((e14.trans e5).trans e6)
    | false =>
      rw [if_neg Bool.false_ne_true]
      exact q H4 e14⟩
theorem ev_all {bs : List Bool} (h : EvL te σ H (bs.map V.bl)) : Ev (tCB (rAll K) (tCons te tNil)) σ H (.bl (bs.all id)) := fun H1 e Q q =>
  h H1 e _ fun p H2 _ e2 hp => ⟨p, bs, rfl, sq_of hp, q H2 e2⟩
/-- len of a text, of a tracked tuple -/
theorem rc_lenS {s : Str} (h : s.length ≤ 1000) : RC (fun xs H Q => ∃ z, xs = [V.str z] ∧ z.length ≤ sizeLine ∧ Q (.int z.length) H) [.str s] H (.int (s.length : Int)) := fun H1 _ Q q =>
  ⟨s, rfl, sz_of (by omega), q H1 (Ex.refl H1)⟩
theorem rc_lenT {a : Addr} {xs : List V} (h : SqT K H a xs) : RC (fun vs H Q => ∃ p ys, vs = [V.ref p] ∧ (SqL K H p ys ∨ SqT K H p ys) ∧ Q (.int ys.length) H) [.ref a] H (.int (xs.length : Int)) := fun H1 e Q q =>
  ⟨a, xs, rfl, .inr (ex_t e h), q H1 (Ex.refl H1)⟩
theorem rc_lenL {a : Addr} {xs : List V} (h : SqL K H a xs) : RC (fun vs H Q => ∃ p ys, vs = [V.ref p] ∧ (SqL K H p ys ∨ SqT K H p ys) ∧ Q (.int ys.length) H) [.ref a] H (.int (xs.length : Int)) := fun H1 e Q q =>
  ⟨a, xs, rfl, .inl (ex_l e h), q H1 (Ex.refl H1)⟩
theorem cut_tail (v : V) (xs : List V) : cutV (v :: xs) (some 1) none = xs := by
  unfold cutV
  rw [show HT.sIx (v :: xs).length 0 (some 1) = min 1 (v :: xs).length from HT.sIx_nat _ 0 1, HT.sIx_none, show min 1 (v :: xs).length = 1 by rw [List.length_cons]; omega]
  show List.take ((v :: xs).length - 1) xs = xs
  rw [List.length_cons, Nat.add_sub_cancel]
  exact List.take_length
/-- t[1:] of a tuple that is not empty: a new tuple -/
theorem eu_tail {a : Addr} {v : V} {xs : List V} (h : Ev te σ H (.ref a)) (ht : SqT K H a (v :: xs)) : EvU (tSl (rSlT K) te (tPart (tC (.int 1))) tNoPart) σ H xs := fun H1 e Q q =>
  h H1 e _ fun H2 e2 => ⟨1, rfl, a, v :: xs, rfl, ex_t (e.trans e2) ht, by
    rw [show HT.sIx (v :: xs).length 0 (some 1) = min 1 (v :: xs).length from HT.sIx_nat _ 0 1]
    intro z
    have := z.1
    rw [List.length_cons] at this
    omega, fun p hp => by
    rw [cut_tail]
    exact q p _ (fresh_back e2 hp) (e2.trans (Ex.new hp)) upd_same⟩
end

/-! ### texts -/
def rLeS : R2 := fun x y H Q => ∃ i j, x = .str i ∧ y = .str j ∧ Q (.bl (!decide (j.cps.toList < i.cps.toList))) H
theorem op_leS {X : Cx} : OpR X (compareOp .LtE) rLeS := op_le_str
theorem rv_leS {i j : Str} {H : Hp} : RV rLeS (.str i) (.str j) H (.bl (!decide (j.cps.toList < i.cps.toList))) := fun H1 _ Q q => ⟨i, j, rfl, rfl, q H1 (Ex.refl H1)⟩
theorem one_lt (a b : Nat) : decide ([a] < [b]) = decide (a < b) := by
  by_cases h : a < b
  · rw [decide_eq_true h, decide_eq_true (List.cons_lt_cons_iff.mpr (.inl h))]
  · rw [decide_eq_false h, decide_eq_false]
    intro z
    rcases List.cons_lt_cons_iff.mp z with q | ⟨_, q⟩
    · exact h q
    · exact absurd q (by simp)
def isLow (c : Nat) : Bool := decide (97 ≤ c) && decide (c ≤ 122)
theorem given_all (n : Nat) (v : Nat → V) : given n (fun _ => true) v = (List.range n).map v := by
  unfold given
  rw [List.filter_eq_self.mpr (fun _ _ => rfl)]
theorem all_range {α : Type} (l : List α) (d : α) (p : α → Bool) : ((List.range l.length).map fun i => p (l.getD i d)).all id = l.all p := by
  rw [List.all_map]
  have e : ∀ n, n ≤ l.length → ((List.range n).all fun i => p (l.getD i d)) = (l.take n).all p := by
    intro n
    induction n with
    | zero => intro _; simp
    | succ n ih =>
      intro h
      rw [List.range_succ, List.all_append, ih (by omega), List.take_add_one, List.all_append]
      congr 1
      rw [List.getElem?_eq_getElem (by omega)]
      simp [List.getD, List.getElem?_eq_getElem (show n < l.length by omega)]
  have h := e l.length (Nat.le_refl _)
  rw [List.take_length] at h
  exact h
end Cr
/-! own errors whose making says super().__init__(..) first, over ValueError through classes between -/
namespace Cr
open PySem PySem.Spec PyProof.Rows L2

/-- the names of such a def -/
structure SupScope (N ps : List Str) (sc : Scope) : Prop where
  kind : sc.kind = .function
  co : sc.isCoroutine = false
  gen : sc.isGenerator = false
  nd : N.Nodup
  pre : N.take ps.length = ps
  par : ∀ x ∈ ps, sc.names.lookup x = some .local
  nocell : ∀ y ∈ sc.names, y.2 ≠ .cell
  free : ∀ y ∈ sc.names, y.2 = .free → y.1 = "__class__"
  cls : sc.names.lookup ("__class__" : Str) = some .free
  sup : sc.names.lookup ("super" : Str) = some .globalImplicit

/-- its body's context: no error leaves it -/
def cxSup (P : Program) (w : World) (K : PySem.W.Frag) (mg : Str → Option Value) (base : Heap) (N : List Str) (qual : Str) (scope : Scope) (f cda cc : Addr) (A : Around) (outer : List Env) (s : Shared) (H : Hp) : Cx where
  prog := P
  w := w
  K := K
  mg := mg
  base := base
  A := A.deeper (PySem.W.ksEnv qual scope s.heap.objs.size f (.ref cda) cc)
  N := N
  s_0 := s
  H_0 := H
  env := PySem.W.ksEnv qual scope s.heap.objs.size f (.ref cda) cc
  outer := outer
  stack := PySem.W.ksEnv qual scope s.heap.objs.size f (.ref cda) cc :: outer
  ex := []
  calm := true
  fn := fun _ => false
  pn := []
  xe := fun _ _ => False

theorem look_mem {α : Type} {x : Str} {v : α} : ∀ {l : List (Str × α)}, (l.map (·.1)).Nodup → (x, v) ∈ l → l.lookup x = some v
  | [], _, h => nomatch h
  | (y, u) :: l, nd, h => by
    rcases List.mem_cons.mp h with e | h2
    · cases e; simp [List.lookup]
    · have nd' := List.nodup_cons.mp nd
      have ne : (x == y) = false := by
        refine beq_eq_false_iff_ne.mpr fun z => nd'.1 ?_
        rw [← z]
        exact List.mem_map.mpr ⟨_, h2, rfl⟩
      simp only [List.lookup, ne]
      exact look_mem nd'.2 h2
theorem zip_rev {ps : List Str} {us : List Value} {i : Nat} {x : Str} {u : Value} (nd : ps.Nodup) (h1 : ps[i]? = some x) (h2 : us[i]? = some u) (hl : us.length = ps.length) : (ps.zip us).reverse.lookup x = some u := by
  refine look_mem ?_ ?_
  · rw [List.map_reverse]
    have e : (ps.zip us).map (·.1) = ps := List.map_fst_zip (by omega)
    rw [e]
    exact List.pairwise_reverse.mpr (List.Pairwise.imp (fun h => Ne.symm h) nd)
  · refine List.mem_reverse.mpr ?_
    refine List.mem_of_getElem? (i := i) ?_
    rw [List.getElem?_zip_eq_some]
    exact ⟨h1, h2⟩

section
variable {P : Program} {w : World} {K : PySem.W.Frag} {mg : Str → Option Value} {base : Heap}
theorem inv_sup {N ps : List Str} {qual : Str} {scope : Scope} {f cda cc : Addr} {cl : Value} {cld : Option Addr} {cv : Option Value} {csl : Array (Option Value)} {A : Around} {outer : List Env} {s : Shared} {h₁ : Heap} {tk : Nat} {H : Hp} {us : List Value} {vs : List V}
    (S : SupScope N ps scope) (hd : A.handled = none) (e0 : Env0 P w K mg base A outer s H) (hl : vs.length = ps.length) (r : Vals vs us) (hcell : K.lookup cc = some ⟨cl, cld, .cell cv, csl⟩)
    (hns : h₁.Ns s.heap.objs.size (fun x => (ps.zip us).reverse.lookup x)) (hk : ∀ b o, s.heap.get? b = some o → h₁.get? b = some o) :
    Inv (cxSup P w K mg base N qual scope f cda cc A outer s H) [] (L2.start N vs) H { s with heap := h₁, toks := tk } := by
  have hpl : ps.length ≤ N.length := by have := congrArg List.length S.pre; rw [List.length_take] at this; omega
  have noA : ∀ b : Addr, b ∉ (cxSup P w K mg base N qual scope f cda cc A outer s H).ex := fun b z => absurd (show b ∈ ([] : List Addr) from z) (by simp)
  have one : ∀ {y : Str} {c : Addr}, ([("__class__", cc)] : List (Str × Addr)).lookup y = some c → y = "__class__" ∧ c = cc := fun {y c} h => by
    by_cases z : y = "__class__"
    · subst z
      simp [List.lookup] at h
      exact ⟨rfl, h.symm⟩
    · have e : (y == ("__class__" : Str)) = false := beq_eq_false_iff_ne.mpr z
      simp [List.lookup, e] at h
  have hb := e0.mod.kin _ _ hcell
  have hc1 := e0.bs _ _ hb
  refine ⟨⟨e0.mod, S.kind, rfl, rfl, Nat.le_refl _, fun y z c h1 h2 => (one h1).1.trans (one h2).1.symm, fun y hy => ?_, fun y c z _ => absurd (show false = true from z) (by decide), fun _ => hd, Around.frames_deeper e0.frames, .inr ⟨rfl, rfl⟩, fun b z => absurd z (noA b), e0.bs, e0.bsz, fun b _ _ => noA b, fun b z => absurd z (noA b), e0.funs, e0.frf⟩,
    rfl, e0.bare, Un.kept hk, ⟨_, hns, fun i y v h1 h2 h3 => ?_⟩, fun y c h => ?_, e0.hok.fresh (Nat.le_refl _), fun y c h => ?_, fun p hp => absurd (show p ∈ ([] : List (Addr × Obj)) from hp) (by simp), e0.hok.kept hk, ?_⟩
  · have hy : scope.names.lookup y = some .cell ∨ scope.names.lookup y = some .free := hy
    rcases hy with hy | hy
    · exact absurd rfl (S.nocell _ (PySem.mem_of_lookup hy))
    · have e := S.free _ (PySem.mem_of_lookup hy) rfl
      have e : y = "__class__" := e
      subst e
      exact ⟨cc, by show ([(("__class__" : Str), cc)] : List (Str × Addr)).lookup ("__class__" : Str) = _; simp [List.lookup]⟩
  · have hi : i < vs.length := by
      unfold L2.start at h2
      by_cases hi : i < vs.length
      · exact hi
      · rw [List.getElem?_append_right (by simpa using hi)] at h2
        rw [List.getElem?_replicate] at h2
        split at h2 <;> cases h2
    have ha : vs[i]? = some v := by
      unfold L2.start at h2
      rw [List.getElem?_append_left (by simpa using hi), List.getElem?_map] at h2
      cases e : vs[i]? with
      | none => rw [e] at h2; cases h2
      | some a => rw [e] at h2; cases h2; rfl
    obtain ⟨u, hu, rv⟩ := r.get ha
    have hp : ps[i]? = some y := by
      rw [← S.pre, List.getElem?_take_of_lt (by omega)]; exact h1
    have ndP : ps.Nodup := by rw [← S.pre]; exact S.nd.sublist (List.take_sublist _ _)
    exact ⟨u, rv, .inl ⟨S.par y (List.mem_of_getElem? hp), zip_rev ndP hp hu (r.length.symm.trans hl)⟩⟩
  · obtain ⟨_, rfl⟩ := one h
    exact ⟨cv, _, hk _ _ hc1.1, rfl⟩
  · obtain ⟨_, rfl⟩ := one h
    exact hc1.2
  · unfold L2.start
    show _ = N.length
    rw [List.length_append, List.length_map, List.length_replicate]
    omega

/-- what the written part says of the class and of super() in its __init__ -/
structure SupC (P : Program) (K : PySem.W.Frag) (C cda cc : Addr) : Prop where
  oex : OexC K C
  code : ∃ ccl cdd cvs ccs file tf, K.lookup cda = some ⟨ccl, cdd, .fields cvs, ccs⟩ ∧ cvs[2]? = some (.str file tf) ∧ ((P.main.file : Str) == file) = true
  cell : ∃ cl cld csl, K.lookup cc = some ⟨cl, cld, .cell (some (.ref C)), csl⟩
  self : PySem.W.mroIn K C (.ref C) = some true
  opq : PySem.W.nsIn K cStatics "thirdparty.any" = some none
  up : PySem.W.ks_superIn K C C "__init__" = some (some (.builtin "ValueError.__init__"))
  sub : PySem.W.subIn K (.ref C) (.type "ValueError") = some true
  top : (P.main.scope.names.lookup ("super" : Str)).isSome = false

/-- the bound __init__ of ValueError, called -/
theorem bound_ok {X : Cx} {pins : List (Addr × Obj)} {σ : L2.St} {H : Hp} {s : Shared} {a C u : Addr} {A : Around} {E : Value → Shared → Prop} {us : List Value} {Q : Value → Shared → Prop} (T : OexC X.K C) (I : Inv X pins σ H s) (e : H a = some (exo a C none))
    (hu : s.heap.get? u = some (PySem.W.kxs_mw "ValueError.__init__" a)) (hl : us.length ≤ sizeLine) (h : ∀ s', Inv X pins σ H s' → Q .none s') : wpAny (model X.prog X.w) A (call (.ref u) us) Q E s := by
  obtain ⟨nm, q, N, bs, bm, sn, sub, ab, col, dd, k0, k1, k2, k3, k5, hC, hbm⟩ := T.cls
  obtain ⟨t1, ho⟩ := exo_at I.hok e
  have hC' := I.kIn _ _ hC
  obtain ⟨hp, g, d, t, os⟩ := s
  refine wpAny_call (codeAny_of_tree ?_)
  show wpAny _ A.in1 (callAny (.ref u) ⟨us, []⟩) _ _ _
  simp only [callAny]
  refine wpAny_bind (wpAny_load hu ?_)
  simp only [PySem.W.kxs_mw, show (Value.type "method-wrapper" == Value.type "method" || Value.type "method-wrapper" == Value.type "builtin_function_or_method" || Value.type "method-wrapper" == Value.type "method-wrapper") = true by decide, if_true]
  refine PySem.W.KFB.if_so (by decide) ?_
  refine wpAny_bind (PySem.W.check_bound_init F.excBase_ValueError.toExcCallFacts hC' ho rfl ?_)
  refine wpAny_bind (wpAny_pure (wpAny_pure ?_))
  refine ⟨plainId_quiet F.excBase_ValueError.init.plain _, codeAny_builtin F.excBase_ValueError.initEntry ?_⟩
  refine PySem.W.exc_init_tree (cls := .ref C) (t0 := t1) (dv := none) (c2 := .none) (c3 := .none) (b4 := .bool false) ho hl fun h' k hx _ => ?_
  have J := I.write (t' := t) (x := a) (e := a) (o := exo a C none) (by rw [e]; exact True.intro) (.inl rfl) k ⟨_, hx⟩ (exo_ok hx)
  have eu : upd H a (exo a C none) = H := by
    funext b
    by_cases hb : b = a
    · rw [hb, upd_same, e]
    · rw [upd_ne hb]
  rw [eu] at J
  exact h _ J

/-- THE RULE: def __init__(self, ..): super().__init__(e, ..); rest -/
theorem okSup {name qual : Str} {params : Arguments} {scope : Scope} {dV kV doc pm ct oc : Value} {an od : Option Addr} {osl : Array (Option Value)} {f C cda cc : Addr} {N ps : List Str} {k : Nat} {sp : Sp}
    {p0 p1 p2 p3 p4 : Pos} {e : Expr} {es : List Expr} {rest : List Stmt} {ar : Arg}
    (lk : K.lookup f = some ⟨oc, od, .func (PySem.W.ksFn name qual params (.Expr (.Call (.Attribute (.Call (.Name "super" p0) [] [] p1) "__init__" p2) (e :: es) [] p3) p4 :: rest) scope dV kV doc pm an (.ref cda) ct cc), osl⟩)
    (hcd : PySem.W.codeIn K (.ref cda) qual = true) (S : SupScope N ps scope) (T : SupC P K C cda cc) (hsup : mg "super" = none)
    (hp0 : (params.posonlyargs ++ params.args).head? = some ar) (hself : N[0]? = some ar.arg) (hps : ar.arg ∈ ps)
    (len : ∀ vs H Q E, sp vs H Q E → vs.length = ps.length)
    (hbody : ∀ (A : Around) (outer : List Env) (s : Shared) (H : Hp) (vs : List V) (Q : VK) (E : XK), sp vs H Q E →
      ∃ (a : Addr) (ta : TA) (t : TS), (L2.start N vs)[0]? = some (some (.ref a)) ∧ H a = some (exo a C none) ∧ PA (cxSup P w K mg base N qual scope f cda cc A outer s H) (e :: es) ta ∧
        PSs (cxSup P w K mg base N qual scope f cda cc A outer s H) rest t ∧
        ta (L2.start N vs) H fun ws H1 => ws.length ≤ 1000 ∧ H1 a = some (exo a C none) ∧ t { nx := fun _ H' => Q .non H', rt := Q } (L2.start N vs) H1)
    {pl : Addr → Sem Bool}
    (hc : ∀ L : Addr, eval (.Call (.Attribute (.Call (.Name "super" p0) [] [] p1) "__init__" p2) (e :: es) [] p3) (PySem.W.ksEnv qual scope L f (.ref cda) cc) = (do
      let ov ← attributeBase (.Call (.Name "super" p0) [] [] p1) "__init__" (PySem.W.ksEnv qual scope L f (.ref cda) cc) (eval (.Call (.Name "super" p0) [] [] p1) (PySem.W.ksEnv qual scope L f (.ref cda) cc))
      standAt p2.atName
      let (fx, first) ← holding [ov] (getMethod ov "__init__" (pl L))
      callWith p3 fx first (backTo p3 (starEach (e :: es) (PySem.W.ksEnv qual scope L f (.ref cda) cc))) []) := by intro _; rfl)
    (hint : ∀ L : Addr, interactive (PySem.W.ksEnv qual scope L f (.ref cda) cc) = false := by intro _; rfl)
    (hsw : ∀ L : Addr, swapsWith (.Call (.Attribute (.Call (.Name "super" p0) [] [] p1) "__init__" p2) (e :: es) [] p3) none p4.line (PySem.W.ksEnv qual scope L f (.ref cda) cc) = pure false := by intro _; rfl)
    (he : ∀ L : Addr, starEach (e :: es) (PySem.W.ksEnv qual scope L f (.ref cda) cc) = (false, eval e (PySem.W.ksEnv qual scope L f (.ref cda) cc)) :: starEach es (PySem.W.ksEnv qual scope L f (.ref cda) cc) := by intro _; rfl)
    (hpl : ∀ L : Addr, (backTo p3 (starEach es (PySem.W.ksEnv qual scope L f (.ref cda) cc))).any (·.1) = false := by intro _; rfl) :
    FnOk P w K mg base CX0 (k + 1) f (PySem.W.ksFn name qual params (.Expr (.Call (.Attribute (.Call (.Name "super" p0) [] [] p1) "__init__" p2) (e :: es) [] p3) p4 :: rest) scope dV kV doc pm an (.ref cda) ct cc) ps sp := by
  refine ⟨len, fun A outer s H args us vs Q E hr e0 hb r hsp => ?_⟩
  have keepB : ∀ b o, base.get? b = some o → s.heap.get? b = some o := fun b o e => (e0.bs b o e).1
  obtain ⟨cl, cld, csl, hcell⟩ := T.cell
  obtain ⟨ccl, cdd, cvs, ccs, file, tf, hcode, hvs, hfile⟩ := T.code
  refine ks_codeAny_call_defAt (fd := PySem.W.ksFn name qual params _ scope dV kV doc pm an (.ref cda) ct cc) (binds := ps.zip us) hr.depth ((e0.mod.kin.keeps keepB) _ _ lk) rfl (e0.mod.nolimit.keeps keepB) (PySem.W.codeRec_of (e0.mod.kin.keeps keepB) hcd) rfl hb S.nocell
    (fun x hx => S.par x.1 (List.of_mem_zip (show (x.1, x.2) ∈ ps.zip us from hx)).1) (fun h₁ hns hk => ?_) S.co S.gen S.kind
  obtain ⟨a, ta, t, hs0, hea, hta, ht, hT⟩ := hbody A outer s H vs Q E hsp
  have I : Inv (cxSup P w K mg base N qual scope f cda cc A outer s H) [] (L2.start N vs) H { s with heap := h₁, toks := s.toks + (ps.zip us).length } := inv_sup S hr.hd e0 (len _ _ _ _ hsp) r hcell hns hk
  have kIn := I.kIn
  obtain ⟨m, hn, hlk⟩ := I.loc
  obtain ⟨u0, hu0, hl0⟩ := hlk 0 ar.arg (.ref a) hself hs0 (.inl (S.par _ hps))
  obtain rfl : u0 = Value.ref a := hu0
  have hma : m ar.arg = some (.ref a) := by
    rcases hl0 with ⟨_, z⟩ | ⟨z, _⟩
    · exact z
    · have k1 : scope.names.lookup ar.arg = some .local := S.par _ hps
      rcases z with z | z
      · have z' : scope.names.lookup ar.arg = some .cell := z
        rw [k1] at z'; cases z'
      · have z' : scope.names.lookup ar.arg = some .free := z
        rw [k1] at z'; cases z'
  obtain ⟨t1, ho⟩ := exo_at I.hok hea
  obtain ⟨nm, q, N', bs, bm, sn, sub, ab, col, dd, k0, k1, k2, k3, k5, hC, hbm⟩ := T.oex.cls
  have hcl : PySem.W.clsIn K C = some { name := nm, bases := bs, mro := .ref C :: bm, ns := N', qualname := q, hasDict := true, slotNames := sn, subclasses := sub, abstract := ab, collection := col, hasDel := false } := by unfold PySem.W.clsIn; rw [hC] <;> rfl
  obtain ⟨mb, hmb, hbb⟩ := I.mod.blt
  have J : PySem.W.InstAt h₁ a { cls := .ref C, dict := none, data := .fields #[.ref t1, .none, .none, .none, .bool false, .none] } C none := ⟨ho, rfl, rfl, trivial⟩
  have hne : a ≠ C := PySem.W.ks_ne kIn J hcl
  show PySem.wpAt (model P w) (A.deeper (PySem.W.ksEnv qual scope s.heap.objs.size f (.ref cda) cc)) (.func _ (PySem.W.ksEnv qual scope s.heap.objs.size f (.ref cda) cc)) (execs _ (PySem.W.ksEnv qual scope s.heap.objs.size f (.ref cda) cc)) _ _ _
  refine ks_wpAt_execs_cons (ks_wpAt_Expr_any (ks_wpAt_MethodCall (pl := pl s.heap.objs.size) (ks_wpAt_super_base (f := f) S.sup S.cls (by decide) rfl (kIn _ _ lk) rfl hp0 rfl (kIn _ _ hcode) rfl hvs hfile T.top ?_) (hc _)) (hint _) (hsw _))
  refine PySem.W.ks_loadName_global S.kind S.sup (PySem.Calls.loadGlobal_builtin (mg := mg) (mb := mb) (I.mod.glob.keeps I.bk) hsup (hmb.keeps I.bk) ((hbb _ (by decide +kernel)).trans (by first | boot_by_name | rfl | kernel_rfl)) ⟨rfl, ?_⟩)
  refine wpAny_loadName_free S.kind S.cls rfl ⟨_, kIn _ _ hcell, rfl⟩ ?_
  refine wpAny_loadName_local S.kind (S.par _ hps) hn hma ?_
  refine ks_wpAny_isType_cls (kIn _ _ hC) rfl ⟨rfl, ?_⟩
  refine ks_wpAny_call_super (kIn _ _ hC) rfl ho rfl (fun c z => by cases z) (PySem.W.looks_mroIn kIn T.self) (fun h2 e2 kk2 => ?_)
  have I2 : Inv (cxSup P w K mg base N qual scope f cda cc A outer s H) [] (L2.start N vs) H { s with heap := h2, toks := s.toks + (ps.zip us).length } := I.kept (t' := s.toks + (ps.zip us).length) kk2
  have hm2 := T.up
  unfold PySem.W.ks_superIn at hm2
  rw [hcl] at hm2
  have J2 : PySem.W.InstAt h2 a { cls := .ref C, dict := none, data := .fields #[.ref t1, .none, .none, .none, .bool false, .none] } C none := ⟨kk2 _ _ ho, rfl, rfl, trivial⟩
  refine PySem.W.kxs_getMethod PySem.W.kxs_ValueError e2 (PySem.W.looks_opaque I2.kIn T.opq) (l₀ := .ref C :: bm) (fun A Q E s k q => wpAny_bind ((PySem.W.looks_clsIn I2.kIn hcl) A _ E s k (wpAny_pure q))) rfl I2.kIn hm2
    (J2.type.andThen (PySem.W.looks_subIn I2.kIn T.sub)) hne (by decide) ?_
  have kk3 : ∀ b o, h2.get? b = some o → (h2.push (PySem.W.kxs_mw "ValueError.__init__" a)).get? b = some o := fun b o z => Heap.get?_push_of_some _ z
  have I3 : Inv (cxSup P w K mg base N qual scope f cda cc A outer s H) [] (L2.start N vs) H { s with heap := h2.push (PySem.W.kxs_mw "ValueError.__init__" a), toks := s.toks + (ps.zip us).length + 1 } := I2.kept (t' := s.toks + (ps.zip us).length + 1) kk3
  have I4 : Inv (cxSup P w K mg base N qual scope f cda cc A outer s H) [(h2.objs.size, PySem.W.kxs_mw "ValueError.__init__" a)] (L2.start N vs) H { s with heap := h2.push (PySem.W.kxs_mw "ValueError.__init__" a), toks := s.toks + (ps.zip us).length + 1 } :=
    ⟨I3.ok, I3.os, I3.bare, I3.base, I3.loc, I3.cell, I3.free, I3.freeC, fun p hp => by
      have hp' : p = (h2.objs.size, PySem.W.kxs_mw "ValueError.__init__" a) := List.mem_singleton.mp hp
      subst hp'
      exact ⟨Heap.get?_push_at rfl rfl, I2.hok.fresh (Nat.le_refl _), Nat.ne_of_gt I2.lt, I2.nofs (Nat.le_refl _), fun v z => by cases z⟩, I3.hok, I3.len⟩
  have hev := he s.heap.objs.size
  have hpv := hpl s.heap.objs.size
  show wpAny (model P w) _ (callWith p3 (.ref h2.objs.size) [] (backTo p3 (starEach (e :: es) (PySem.W.ksEnv qual scope s.heap.objs.size f (.ref cda) cc))) []) _ _ _
  have ru := hta.run p3 _ _ _ _ _ I4 hT
  have ru' : wpAny (model P w) (A.deeper (PySem.W.ksEnv qual scope s.heap.objs.size f (.ref cda) cc)) (spliced (backTo p3 (starEach (e :: es) (PySem.W.ksEnv qual scope s.heap.objs.size f (.ref cda) cc)))) _ (fun _ _ => False) _ := ru
  rw [hev] at ru' ⊢
  refine PySem.W.kxs_callWith (i := "ValueError.__init__") (x := a) (by show (false || (backTo p3 (starEach es _)).any (·.1)) = false; rw [hpv]; rfl) (PySem.Calls.evalArgs_plain ?_)
  refine wpAny_mono ru' (fun ws s5 h5 => ?_) fun _ _ z => z.elim
  obtain ⟨vs5, H5, I5, r5, hl5, he5, hT5⟩ := h5
  have hu5 := (I5.pin _ (List.mem_append_right _ List.mem_cons_self)).1
  refine ⟨hu5, ?_⟩
  refine bound_ok T.oex I5 he5 hu5 (by show ws.length ≤ sizeLine; rw [← Paired.length r5, sizeLine_eq]; omega) fun s6 I6 => ?_
  have go := ht.run _ _ _ _ _ I6 hT5
  refine wpAt_of_wpAny ?_
  refine wpAny_mono go (fun fl s7 h7 => ?_) fun _ _ z => z.elim
  match fl, h7 with
  | .ret u, ⟨v, σ2, H2, J7, rv, q7⟩ => exact ⟨v, H2, J7.os, J7.bare, J7.base, J7.hok, rv, q7⟩
  | .next, ⟨σ2, H2, J7, q7⟩ => exact ⟨V.non, H2, J7.os, J7.bare, J7.base, J7.hok, rfl, q7⟩
  | .brk, ⟨_, _, _, q7⟩ => exact q7.elim
  | .cont, ⟨_, _, _, q7⟩ => exact q7.elim
end
end Cr
/-! own errors over any built-in error: fields stored, the making, super().__init__(..) -/
namespace Cr
open PySem PySem.Spec PyProof.Rows L2
open Builtin Builtin.ObjectAttr

/-- a built-in error: its name, its __new__ and __init__, its chain -/
structure XB where
  B : String
  nw : String
  ini : String
  tl : List Value
structure XB.Ok (b : XB) : Prop where
  base : ExcBaseFacts b.B b.nw b.ini b.tl
  sup : PySem.W.KxsFacts b.B b.ini
  free : ∀ self : Value, refuseLoop self "__setattr__" b.tl = pure ()
  obj : b.tl.contains (.type "object") = true
abbrev xbV : XB := ⟨"ValueError", "ValueError.__new__", "ValueError.__init__", [.type "ValueError", .type "Exception", .type "BaseException", .type "object"]⟩
abbrev xbR : XB := ⟨"RuntimeError", "RuntimeError.__new__", "RuntimeError.__init__", [.type "RuntimeError", .type "Exception", .type "BaseException", .type "object"]⟩
abbrev xbL : XB := ⟨"LookupError", "LookupError.__new__", "LookupError.__init__", [.type "LookupError", .type "Exception", .type "BaseException", .type "object"]⟩
abbrev xbA : XB := ⟨"ArithmeticError", "ArithmeticError.__new__", "ArithmeticError.__init__", [.type "ArithmeticError", .type "Exception", .type "BaseException", .type "object"]⟩
theorem xbV_ok : xbV.Ok := ⟨F.excBase_ValueError, PySem.W.kxs_ValueError, F.store_ValueError.passes, by decide +kernel⟩
theorem xbR_ok : xbR.Ok := ⟨F.excBase_RuntimeError, PySem.W.kxs_RuntimeError, F.store_RuntimeError.passes, by decide +kernel⟩
theorem xbL_ok : xbL.Ok := ⟨F.excBase_LookupError, PySem.W.kxs_LookupError, F.store_LookupError.passes, by decide +kernel⟩
theorem xbA_ok : xbA.Ok := ⟨F.excBase_ArithmeticError, PySem.W.kxs_ArithmeticError, F.store_ArithmeticError.passes, by decide +kernel⟩

/-- own classes, then the chain -/
def downTo (tl : List Value) : List Value → Bool
  | .ref _ :: r => downTo tl r
  | l => l == tl
theorem down_or {tl l : List Value} (h : downTo tl l = true) : (∃ c r, l = .ref c :: r ∧ downTo tl r = true) ∨ l = tl := by
  unfold downTo at h
  split at h
  · exact .inl ⟨_, _, rfl, h⟩
  · exact .inr (beq_iff_eq.mp h)
theorem down_free {tl : List Value} (self : Value) (ht : refuseLoop self "__setattr__" tl = pure ()) : ∀ l : List Value, downTo tl l = true → refuseLoop self "__setattr__" l = pure ()
  | [], h => by
    rcases down_or h with ⟨_, _, z, _⟩ | rfl
    · cases z
    · exact ht
  | v :: r, h => by
    rcases down_or h with ⟨c, r', z, k⟩ | z
    · cases z
      rw [refuseLoop_ref]
      exact down_free self ht r k
    · rw [z]
      exact ht
theorem down_has {tl : List Value} (Y : String) : ∀ l : List Value, downTo tl l = true → l.contains (.type Y) = tl.contains (.type Y)
  | [], h => by
    rcases down_or h with ⟨_, _, z, _⟩ | rfl
    · cases z
    · rfl
  | v :: r, h => by
    rcases down_or h with ⟨c, r', z, k⟩ | z
    · cases z
      rw [List.contains_cons, down_has Y r k]
      rfl
    · rw [z]

/-- what the written part says of an own error's class -/
structure OexG (K : PySem.W.Frag) (C : Addr) (b : XB) : Prop where
  ok : b.Ok
  cls : ∃ nm q N bs bm sn sub ab col dd k0 k1 k2 k3 k5, K.lookup C = some (excClassObj nm q C N bs bm true sn sub ab col dd k0 k1 k2 k3 k5 b.nw) ∧ downTo b.tl bm = true
  sa : PySem.W.findIn K (.ref C) "__setattr__" = some (some (.builtin "object.__setattr__"))
  exC : PySem.W.subIn K (.ref C) (.type "BaseException") = some true
  tyC : PySem.W.typeIn K (.ref C) = some (.type "type")
  kC : PySem.W.keepIn K (.ref C) = true

section
variable {prog : Program} {w : World} {A : Around} {R : Result → Shared → Prop} {hp : Heap} {g : Array GenState} {d : Drawn} {t : Nat} {os : OsState}
/-- the way of object.__setattr__ up to the own dict -/
theorem osaG {K : PySem.W.Frag} {name : Str} {tk : Tok} {v : Value} {x C : Addr} {ox : Obj} {od : Option Obj} {cd : ClassData} {b : XB} (hb : b.Ok) (X : K.In hp) (I : PySem.W.InstAt hp x ox C od) (hcd : PySem.W.clsIn K C = some cd) (hm : downTo b.tl cd.mro = true) (ha : PySem.W.findIn K (.ref C) name = some none)
    (go : ∀ Q : Fin → Shared → Prop, (∀ s', R (.ok (.ret .none)) s' → Q (.done (.ret .none)) s') → wpAny (model prog w) A.in1 (storeInOwnDict (.ref x) (.ref C) (.str name tk) name v false) Q (fun e s' => R (.error e) s') ⟨hp, g, d, t, os⟩) :
    codeAny (model prog w) A (.call (.builtin "object.__setattr__") ⟨[.ref x, .str name tk, v], []⟩) R ⟨hp, g, d, t, os⟩ := by
  have SF := F.store_object
  have has : cd.mro.contains (.type "object") = true := (down_has "object" _ hm).trans hb.obj
  have full : cd.mro.isEmpty = false := by
    cases e : cd.mro with
    | nil => rw [e] at has; exact absurd has (by decide)
    | cons _ _ => rfl
  have isO : PySem.W.Looks (model prog w) hp (isInstance (.ref x) (.type "object")) true := I.type.andThen (PySem.W.looks_mroIn X (by unfold PySem.W.mroIn; rw [hcd, Option.bind_some, if_neg (by rw [full]; decide), has]))
  refine codeAny_call_builtin SF.slot.plain SF.entry (@PySem.W.check_slot (model prog w) _ _ ⟨hp, g, d, t, os⟩ "object.__setattr__" "object" "__setattr__" (.ref x) [.str name tk, v] [] _ SF.kind SF.split isO (SF.args (.ref x) (.str name tk) v) ?_)
  have line : PySem.W.Looks (model prog w) hp (mroOf (.ref C)) cd.mro := (PySem.W.looks_clsIn X hcd).andThen .now
  have none_ : PySem.W.Looks (model prog w) hp (storeTaker? none) none := .now
  rw [PySem.W.osa_eq, refuse_eq]
  refine wpAny_bind (wpAny_bind (I.type.at (wpAny_bind (line.at ?_))))
  rw [down_free _ (hb.free _) _ hm]
  refine wpAny_pure (wpAny_bind (I.type.at (wpAny_bind ((PySem.W.looks_findIn X ha).at (wpAny_bind (none_.at ?_))))))
  exact go _ fun s' h => h
end
end Cr
namespace Cr
open PySem PySem.Spec PyProof.Rows L2
open Builtin Builtin.ObjectAttr
section
variable {prog : Program} {w : World} {A : Around} {R : Result → Shared → Prop} {hp : Heap} {g : Array GenState} {d : Drawn} {t : Nat} {os : OsState}
/-- the first field: the dict is made -/
theorem osaG_new {K : PySem.W.Frag} {name : Str} {tk : Tok} {v : Value} {x C : Addr} {fv : Array Value} {cd : ClassData} {b : XB} (hb : b.Ok) (X : K.In hp) (hx : hp.get? x = some { cls := .ref C, data := .fields fv }) (hcd : PySem.W.clsIn K C = some cd) (hm : downTo b.tl cd.mro = true) (hh : cd.hasDict = true)
    (ha : PySem.W.findIn K (.ref C) name = some none)
    (hq : ∀ h' tk' dx, (∀ c o, c ≠ x → hp.get? c = some o → h'.get? c = some o) → hp.objs.size ≤ dx → dx ≠ x → h'.get? x = some { cls := .ref C, dict := some dx, data := .fields fv } →
      h'.Ns1 dx (fun y => if y = name then some v else none) → R (.ok (.ret .none)) ⟨h', g, d, tk', os⟩) :
    codeAny (model prog w) A (.call (.builtin "object.__setattr__") ⟨[.ref x, .str name tk, v], []⟩) R ⟨hp, g, d, t, os⟩ := by
  refine osaG hb X (ox := { cls := .ref C, data := .fields fv }) (od := none) ⟨hx, rfl, rfl, trivial⟩ hcd hm ha fun Q hQ => ?_
  have far : x ≠ hp.objs.size := Nat.ne_of_lt (Heap.lt_size hx)
  have hc : PySem.W.Looks (model prog w) hp (classData C) cd := PySem.W.looks_clsIn X hcd
  obtain ⟨nm, bs, mro, ns, qn, hd, sn, sb, ab, col, dl⟩ := cd
  cases hh
  unfold storeInOwnDict ownDictForStores
  repeat (first | with_reducible refine PySem.HandSPX.store_in_new ?_ ?_ | with_reducible refine wpAny_loadPart_at hx ?_ | with_reducible refine hc.at ?_ | wp_step)
  · exact ⟨_, #[], _, (Heap.get?_update_ne _ _ _ _ far.symm).trans (Heap.get?_push_at rfl rfl), rfl, (fun e he => by simp at he), fun _ => rfl⟩
  · intro h' tk' hn hs
    refine hQ _ (hq h' tk' hp.objs.size (fun c o hc ho => ?_) (Nat.le_refl _) far.symm ?_ hn)
    · rw [hs.2 c (Nat.ne_of_lt (Heap.lt_size ho)), Heap.get?_update_ne _ _ _ _ hc]
      exact Heap.get?_push_of_some _ ho
    · rw [hs.2 x far]
      exact Heap.get?_update_self _ (Heap.get?_push_of_some _ hx) rfl
/-- a further field -/
theorem osaG_old {K : PySem.W.Frag} {name : Str} {tk : Tok} {v : Value} {x C dx : Addr} {fv : Array Value} {cd : ClassData} {m0 : Str → Option Value} {nl : List Str} {b : XB} (hb : b.Ok) (X : K.In hp) (hx : hp.get? x = some { cls := .ref C, dict := some dx, data := .fields fv }) (hns : hp.Ns1 dx m0) (hw : Within m0 nl) (hz : nl.length ≤ 1000)
    (hcd : PySem.W.clsIn K C = some cd) (hm : downTo b.tl cd.mro = true) (hh : cd.hasDict = true) (ha : PySem.W.findIn K (.ref C) name = some none)
    (hq : ∀ h' tk', (∀ c o, c ≠ dx → hp.get? c = some o → h'.get? c = some o) → h'.Ns1 dx (fun y => if y = name then some v else m0 y) → R (.ok (.ret .none)) ⟨h', g, d, tk', os⟩) :
    codeAny (model prog w) A (.call (.builtin "object.__setattr__") ⟨[.ref x, .str name tk, v], []⟩) R ⟨hp, g, d, t, os⟩ := by
  obtain ⟨oD, _, _, hoD, _, _⟩ := hns.count hw
  refine osaG hb X (ox := { cls := .ref C, dict := some dx, data := .fields fv }) (od := some oD) ⟨hx, rfl, rfl, hoD⟩ hcd hm ha fun Q hQ => ?_
  have hc : PySem.W.Looks (model prog w) hp (classData C) cd := PySem.W.looks_clsIn X hcd
  obtain ⟨nm, bs, mro, ns, qn, hd, sn, sb, ab, col, dl⟩ := cd
  cases hh
  unfold storeInOwnDict ownDictForStores
  repeat (first | with_reducible refine PySem.OEX.store_in_old hns hw hz ?_ | with_reducible refine wpAny_loadPart_at hx ?_ | with_reducible refine hc.at ?_ | wp_step)
  intro h' tk' hn hs
  exact hQ _ (hq h' tk' (fun c o hc ho => (hs.2 c hc).trans ho) hn)
end

section
variable {X : Cx} {pins : List (Addr × Obj)} {σ : L2.St} {H : Hp} {s : Shared} {a C dx : Addr} {b : XB} {f : Str} {y : V} {u : Value} {fs : List (Str × V)} {Q : Unit → Shared → Prop} {E : Value → Shared → Prop} {A : Around}
theorem ostG_new (T : OexG X.K C b) (I : Inv X pins σ H s) (e : H a = some (exo a C none)) (hno : PySem.W.findIn X.K (.ref C) f = some none) (ry : RelV y u)
    (h : ∀ dx s', H dx = none → dx ≠ a → Inv X pins σ (upd (upd H dx (exd dx [(f, y)])) a (exo a C (some dx))) s' → Q () s') : wpAny (model X.prog X.w) A (setAttr (.ref a) f u) Q E s := by
  obtain ⟨nm, q, N, bs, bm, sn, sub, ab, col, dd, k0, k1, k2, k3, k5, hC, hbm⟩ := T.cls
  have hcl : PySem.W.clsIn X.K C = some { name := nm, bases := bs, mro := .ref C :: bm, ns := N, qualname := q, hasDict := true, slotNames := sn, subclasses := sub, abstract := ab, collection := col, hasDel := false } := by unfold PySem.W.clsIn; rw [hC] <;> rfl
  obtain ⟨t1, ho⟩ := exo_at I.hok e
  obtain ⟨hp, g, d, t, os⟩ := s
  refine PySem.W.set_plain I.kIn (ox := { cls := .ref C, dict := none, data := .fields #[.ref t1, .none, .none, .none, .bool false, .none] }) (od := none) ⟨ho, rfl, rfl, trivial⟩ T.sa ?_
  refine osaG_new T.ok I.kIn ho hcl (show downTo b.tl (.ref C :: bm) = true from hbm) rfl hno (fun h' tk' dx k dn dne hx hn => ?_)
  have new : H dx = none := I.hok.fresh dn
  have old : ∀ {c : Addr} {o : Obj}, hp.get? c = some o → c ≠ dx := fun q => Nat.ne_of_lt (Nat.lt_of_lt_of_le (Heap.lt_size q) dn)
  have notA : ∀ {c : Addr}, H c = none → c ≠ a := fun n z => by rw [z, e] at n; cases n
  have atA : ∀ {c : Addr} {o : HO}, H c = some o → exo a C none ≠ o → upd (upd H dx (exd dx [(f, y)])) a (exo a C (some dx)) c = some o := fun q n => by
    rw [upd_ne (at_ne e q n), upd_ne (ne_of_none q new)]
    exact q
  have stays : Un X.fs [] H (upd (upd H dx (exd dx [(f, y)])) a (exo a C (some dx))) hp h' := {
    keep := fun c o q n _ _ => k c o (notA n) q
    slot := fun c o q n _ _ => ⟨o.slots, k c o (notA n) q⟩
    free := fun c o q n _ => by rw [upd_ne (notA n), upd_ne (old q)]; exact n
    there := fun c o q _ => by
      by_cases hc : c = a
      · subst hc
        exact ⟨_, hx⟩
      · exact ⟨o, k c o hc q⟩
    tups := fun c xs q => atA q exo_tup
    frzs := fun c o v q => atA q exo_frz
    tbls := fun c ps q => ⟨#[], by rw [atA q exo_tbl]; simp⟩ }
  refine h dx _ new dne (I.un (t' := tk') stays fun c o q => ?_)
  by_cases ca : c = a
  · subst ca
    rw [upd_same] at q
    cases q
    exact exo_ok hx
  rw [upd_ne ca] at q
  by_cases cd : c = dx
  · subst cd
    rw [upd_same] at q
    cases q
    exact exd_ok hn (relO_put (fs := []) ry fun _ => True.intro)
  rw [upd_ne cd] at q
  refine (I.hok c o q).stay (fun c' v hc z => k c' v ?_ z) (fun c' hc => atA hc exo_own) (fun c' xs hc => atA hc exo_tup)
  rcases hc with hc | hc
  · rw [hc]; exact ca
  · exact at_ne e hc exo_own
theorem ostG_old (T : OexG X.K C b) (I : Inv X pins σ H s) (e : H a = some (exo a C (some dx))) (ed : H dx = some (exd dx fs)) (hl : fs.length ≤ 900) (hno : PySem.W.findIn X.K (.ref C) f = some none) (ry : RelV y u)
    (h : ∀ s', Inv X pins σ (upd H dx (exd dx ((f, y) :: fs))) s' → Q () s') : wpAny (model X.prog X.w) A (setAttr (.ref a) f u) Q E s := by
  obtain ⟨nm, q, N, bs, bm, sn, sub, ab, col, dd, k0, k1, k2, k3, k5, hC, hbm⟩ := T.cls
  have hcl : PySem.W.clsIn X.K C = some { name := nm, bases := bs, mro := .ref C :: bm, ns := N, qualname := q, hasDict := true, slotNames := sn, subclasses := sub, abstract := ab, collection := col, hasDel := false } := by unfold PySem.W.clsIn; rw [hC] <;> rfl
  obtain ⟨t1, ho⟩ := exo_at I.hok e
  obtain ⟨mA, hns, rel⟩ := exd_at I.hok ed
  obtain ⟨hp, g, d, t, os⟩ := s
  obtain ⟨oD, _, _, hoD, _, _⟩ := hns.count (within_of rel)
  refine PySem.W.set_plain I.kIn (ox := { cls := .ref C, dict := some dx, data := .fields #[.ref t1, .none, .none, .none, .bool false, .none] }) (od := some oD) ⟨ho, rfl, rfl, hoD⟩ T.sa ?_
  refine osaG_old T.ok I.kIn ho hns (within_of rel) (by rw [List.length_map]; omega) hcl (show downTo b.tl (.ref C :: bm) = true from hbm) rfl hno (fun h' tk' k hn => h _ ?_)
  have there : ∃ o, h'.get? dx = some o := by
    obtain ⟨o, _, _, z, _⟩ := hn
    exact ⟨o, z⟩
  exact I.write (t' := tk') (x := dx) (e := dx) (o := exd dx ((f, y) :: fs)) (by rw [ed]; exact True.intro) (.inl rfl) k there (exd_ok hn (relO_put ry rel))
end

/-- self.f = e in an own error's __init__ -/
def tOstG (K : PySem.W.Frag) (f : Str) (to te : TE) : TS := fun D σ H => te σ H fun y H1 => to σ H1 fun x H2 => ∃ (a C : Addr) (b : XB), x = .ref a ∧ OexG K C b ∧ PySem.W.findIn K (.ref C) f = some none ∧
  ((H2 a = some (exo a C none) ∧ ∀ dx, H2 dx = none → dx ≠ a → D.nx σ (upd (upd H2 dx (exd dx [(f, y)])) a (exo a C (some dx)))) ∨
    ∃ (dx : Addr) (fs : List (Str × V)), H2 a = some (exo a C (some dx)) ∧ H2 dx = some (exd dx fs) ∧ fs.length ≤ 900 ∧ D.nx σ (upd H2 dx (exd dx ((f, y) :: fs))))
section
variable {X : Cx} {o e : Expr} {es : List Expr} {to te : TE} {ta : TA} {f : Str} {p p' pos : Pos}
theorem ps_ostG (ho : PE X o to) (he : PE X e te) (hs : swapsWith e (some (.Attribute o f p')) pos.line X.env = pure false := by rfl) : PS X (.Assign [.Attribute o f p'] e pos) (tOstG X.K f to te) := by
  constructor
  intro pins s σ H D I h
  refine plainObj_wpAny_Assign_Attribute (thn (he.run pins s σ H _ I h) ?_) hs
  rintro v s1 ⟨y, H1, I1, r1, q1⟩
  refine thn (ho.run pins s1 σ H1 _ I1 q1) ?_
  rintro u s2 ⟨x, H2, I2, r2, a, C, b, rfl, T, hno, q⟩
  obtain rfl : u = Value.ref a := r2
  rcases q with ⟨ea, q⟩ | ⟨dx, fs, ea, ed, hl, q⟩
  · exact ostG_new T I2 ea hno r1 fun dx s' n ne J => ⟨σ, _, J, q dx n ne⟩
  · exact ostG_old T I2 ea ed hl hno r1 fun s' J => ⟨σ, _, J, q⟩
/-- C(e, ..) by its own __init__, to be raised -/
theorem pmkG {CX : CXT} {x : Str} {C fI : Addr} {b : XB} {k : Nat} {fd : FuncData} {ps : List Str} {sp : Sp} {ds : List Value} {dvs : List V} (T : OexG X.K C b) (iC : PySem.W.findIn X.K (.ref C) "__init__" = some (some (.ref fI))) (tI : PySem.W.typeIn X.K (.ref fI) = some (.type "function"))
    (F1 : FnOk X.prog X.w X.K X.mg X.base CX k fI fd ps sp) (hr : Room (k + 1) X.A) (hb : Binds X.K fd ps ds) (hd : Vals dvs ds) (hx : Passes CX X (fun _ _ _ => False)) (hg : Gl X x) (hm : X.mg x = some (.ref C)) (ha : PA X (e :: es) ta)
    (hdb : (x == ("__debug__" : Str)) = false := by decide) (he : starEach (e :: es) X.env = (false, eval e X.env) :: starEach es X.env := by rfl) (hpl : (backTo pos (starEach es X.env)).any (·.1) = false := by rfl) :
    PMk X (.Call (.Name x p) (e :: es) [] pos) (tMkO C sp dvs ta) := by
  intro pins s σ H Q I h
  obtain ⟨nm, q, N, bs, bm, sn, sub, ab, col, dd, k0, k1, k2, k3, k5, hC, hbm⟩ := T.cls
  refine wpAny_Call_Name_kw (ld_glob I hg hm ?_ hdb)
  refine PySem.W.callWith_K (h₀ := X.base) I.ok.mod.kin T.kC (thn (ha.run pos pins s σ H _ I h) ?_) he hpl
  rintro us ⟨hp, g, dr, tk, os⟩ ⟨vs, H1, I1, r1, hz, q1⟩
  refine ⟨I1.kIn, ?_⟩
  show wpAny _ _ (call (.ref C) us) _ _ _
  have up : hp.objs.size ≤ hp.objs.size + 1 := Nat.le_succ _
  have go := q1 (hp.objs.size + 1) (I1.hok.fresh up)
  generalize eH : (hp.push (PySem.W.kdv_tup us)).push (PySem.HandSPX.excO C hp.objs.size) = hh
  have kk : ∀ c o, hp.get? c = some o → hh.get? c = some o := fun c o z => by rw [← eH]; exact Heap.get?_push_of_some _ (Heap.get?_push_of_some _ z)
  have here : hh.get? (hp.objs.size + 1) = some (PySem.HandSPX.excO C hp.objs.size) := by rw [← eH]; heap_get
  have I2 : Inv X pins σ (upd H1 (hp.objs.size + 1) (exo (hp.objs.size + 1) C none)) ⟨hh, g, dr, tk, os⟩ := I1.laid (t' := tk) kk up (exo_ok here)
  have rel : Vals (V.ref (hp.objs.size + 1) :: (vs ++ dvs)) (Value.ref (hp.objs.size + 1) :: (us ++ ds)) := .cons rfl (r1.append hd)
  have size : (Value.ref (hp.objs.size + 1) :: us ++ ds).length = ps.length := rel.length.symm.trans (F1.len _ _ _ _ go)
  have few : us.length ≤ sizeLine := by
    rw [← Paired.length r1, sizeLine_eq]
    omega
  refine wpAny_call (PySem.HandSPX.call_own T.ok.base (fun Y => down_has Y bm hbm) (I1.kIn _ _ hC) (PySem.W.looks_findIn I1.kIn iC) (fun self => PySem.W.bind_fn I1.kIn self tI) few ?_)
  rw [eH]
  refine codeAny_mono (F1.run _ X.stack _ _ ⟨Value.ref (hp.objs.size + 1) :: us, []⟩ (Value.ref (hp.objs.size + 1) :: (us ++ ds)) _ _ (fun _ _ _ => False) (hr.make C us []) (I2.env0.make C us []) (hb _ (Value.ref (hp.objs.size + 1) :: us) I2.kIn size) rel go) ?_
  intro r s' z
  match r, z with
  | .error er, z => exact hx pins σ _ _ er s' I2 z
  | .ok .next, z => exact False.elim z
  | .ok .brk, z => exact False.elim z
  | .ok .cont, z => exact False.elim z
  | .ok (.ret u), ⟨v, H2, os2, bare2, un2, hok2, rv, ev, d, fs, ea, ed, hd1, q2⟩ =>
    subst ev
    obtain ⟨h2, g2, d2, t2, os'⟩ := s'
    exact ⟨rv, mk_end (raises_own T.exC T.tyC) I1 up kk un2 hok2 os2 bare2 ea ed hd1 q2⟩
end

/-! ### super().__init__(..) first -/
structure SupG (P : Program) (K : PySem.W.Frag) (C cda cc : Addr) (b : XB) : Prop where
  oex : OexG K C b
  code : ∃ ccl cdd cvs ccs file tf, K.lookup cda = some ⟨ccl, cdd, .fields cvs, ccs⟩ ∧ cvs[2]? = some (.str file tf) ∧ ((P.main.file : Str) == file) = true
  cell : ∃ cl cld csl, K.lookup cc = some ⟨cl, cld, .cell (some (.ref C)), csl⟩
  self : PySem.W.mroIn K C (.ref C) = some true
  opq : PySem.W.nsIn K cStatics "thirdparty.any" = some none
  up : PySem.W.ks_superIn K C C "__init__" = some (some (.builtin b.ini))
  sub : PySem.W.subIn K (.ref C) (.type b.B) = some true
  top : (P.main.scope.names.lookup ("super" : Str)).isSome = false
section
variable {P : Program} {w : World} {K : PySem.W.Frag} {mg : Str → Option Value} {base : Heap}
/-- the bound __init__ of the base, called -/
theorem boundG {X : Cx} {pins : List (Addr × Obj)} {σ : L2.St} {H : Hp} {s : Shared} {a C u : Addr} {b : XB} {A : Around} {E : Value → Shared → Prop} {us : List Value} {Q : Value → Shared → Prop} (T : OexG X.K C b) (I : Inv X pins σ H s) (e : H a = some (exo a C none))
    (hu : s.heap.get? u = some (PySem.W.kxs_mw b.ini a)) (hl : us.length ≤ sizeLine) (h : ∀ s', Inv X pins σ H s' → Q .none s') : wpAny (model X.prog X.w) A (call (.ref u) us) Q E s := by
  obtain ⟨nm, q, N, bs, bm, sn, sub, ab, col, dd, k0, k1, k2, k3, k5, hC, hbm⟩ := T.cls
  obtain ⟨t1, ho⟩ := exo_at I.hok e
  have hC' := I.kIn _ _ hC
  obtain ⟨hp, g, d, t, os⟩ := s
  refine wpAny_call (codeAny_of_tree ?_)
  show wpAny _ A.in1 (callAny (.ref u) ⟨us, []⟩) _ _ _
  simp only [callAny]
  refine wpAny_bind (wpAny_load hu ?_)
  simp only [PySem.W.kxs_mw, show (Value.type "method-wrapper" == Value.type "method" || Value.type "method-wrapper" == Value.type "builtin_function_or_method" || Value.type "method-wrapper" == Value.type "method-wrapper") = true by decide, if_true]
  refine PySem.W.KFB.if_so (by decide) ?_
  refine wpAny_bind (PySem.W.check_bound_init T.ok.base.toExcCallFacts hC' ho rfl ?_)
  refine wpAny_bind (wpAny_pure (wpAny_pure ?_))
  refine ⟨plainId_quiet T.ok.base.init.plain _, codeAny_builtin T.ok.base.initEntry ?_⟩
  refine PySem.W.exc_init_tree (cls := .ref C) (t0 := t1) (dv := none) (c2 := .none) (c3 := .none) (b4 := .bool false) ho hl fun h' k hx _ => ?_
  have J := I.write (t' := t) (x := a) (e := a) (o := exo a C none) (by rw [e]; exact True.intro) (.inl rfl) k ⟨_, hx⟩ (exo_ok hx)
  have eu : upd H a (exo a C none) = H := by
    funext b
    by_cases hb : b = a
    · rw [hb, upd_same, e]
    · rw [upd_ne hb]
  rw [eu] at J
  exact h _ J

/-- THE RULE: def __init__(self, ..): super().__init__(e, ..); rest -/
theorem okSupG {name qual : Str} {params : Arguments} {scope : Scope} {dV kV doc pm ct oc : Value} {an od : Option Addr} {osl : Array (Option Value)} {f C cda cc : Addr} {b : XB} {N ps : List Str} {k : Nat} {sp : Sp}
    {p0 p1 p2 p3 p4 : Pos} {e : Expr} {es : List Expr} {rest : List Stmt} {ar : Arg}
    (lk : K.lookup f = some ⟨oc, od, .func (PySem.W.ksFn name qual params (.Expr (.Call (.Attribute (.Call (.Name "super" p0) [] [] p1) "__init__" p2) (e :: es) [] p3) p4 :: rest) scope dV kV doc pm an (.ref cda) ct cc), osl⟩)
    (hcd : PySem.W.codeIn K (.ref cda) qual = true) (S : SupScope N ps scope) (T : SupG P K C cda cc b) (hsup : mg "super" = none)
    (hp0 : (params.posonlyargs ++ params.args).head? = some ar) (hself : N[0]? = some ar.arg) (hps : ar.arg ∈ ps)
    (len : ∀ vs H Q E, sp vs H Q E → vs.length = ps.length)
    (hbody : ∀ (A : Around) (outer : List Env) (s : Shared) (H : Hp) (vs : List V) (Q : VK) (E : XK), sp vs H Q E →
      ∃ (a : Addr) (ta : TA) (t : TS), (L2.start N vs)[0]? = some (some (.ref a)) ∧ H a = some (exo a C none) ∧ PA (cxSup P w K mg base N qual scope f cda cc A outer s H) (e :: es) ta ∧
        PSs (cxSup P w K mg base N qual scope f cda cc A outer s H) rest t ∧
        ta (L2.start N vs) H fun ws H1 => ws.length ≤ 1000 ∧ H1 a = some (exo a C none) ∧ t { nx := fun _ H' => Q .non H', rt := Q } (L2.start N vs) H1)
    {pl : Addr → Sem Bool}
    (hc : ∀ L : Addr, eval (.Call (.Attribute (.Call (.Name "super" p0) [] [] p1) "__init__" p2) (e :: es) [] p3) (PySem.W.ksEnv qual scope L f (.ref cda) cc) = (do
      let ov ← attributeBase (.Call (.Name "super" p0) [] [] p1) "__init__" (PySem.W.ksEnv qual scope L f (.ref cda) cc) (eval (.Call (.Name "super" p0) [] [] p1) (PySem.W.ksEnv qual scope L f (.ref cda) cc))
      standAt p2.atName
      let (fx, first) ← holding [ov] (getMethod ov "__init__" (pl L))
      callWith p3 fx first (backTo p3 (starEach (e :: es) (PySem.W.ksEnv qual scope L f (.ref cda) cc))) []) := by intro _; rfl)
    (hint : ∀ L : Addr, interactive (PySem.W.ksEnv qual scope L f (.ref cda) cc) = false := by intro _; rfl)
    (hsw : ∀ L : Addr, swapsWith (.Call (.Attribute (.Call (.Name "super" p0) [] [] p1) "__init__" p2) (e :: es) [] p3) none p4.line (PySem.W.ksEnv qual scope L f (.ref cda) cc) = pure false := by intro _; rfl)
    (he : ∀ L : Addr, starEach (e :: es) (PySem.W.ksEnv qual scope L f (.ref cda) cc) = (false, eval e (PySem.W.ksEnv qual scope L f (.ref cda) cc)) :: starEach es (PySem.W.ksEnv qual scope L f (.ref cda) cc) := by intro _; rfl)
    (hpl : ∀ L : Addr, (backTo p3 (starEach es (PySem.W.ksEnv qual scope L f (.ref cda) cc))).any (·.1) = false := by intro _; rfl) :
    FnOk P w K mg base CX0 (k + 1) f (PySem.W.ksFn name qual params (.Expr (.Call (.Attribute (.Call (.Name "super" p0) [] [] p1) "__init__" p2) (e :: es) [] p3) p4 :: rest) scope dV kV doc pm an (.ref cda) ct cc) ps sp := by
  refine ⟨len, fun A outer s H args us vs Q E hr e0 hb r hsp => ?_⟩
  have keepB : ∀ b o, base.get? b = some o → s.heap.get? b = some o := fun b o e => (e0.bs b o e).1
  obtain ⟨cl, cld, csl, hcell⟩ := T.cell
  obtain ⟨ccl, cdd, cvs, ccs, file, tf, hcode, hvs, hfile⟩ := T.code
  refine ks_codeAny_call_defAt (fd := PySem.W.ksFn name qual params _ scope dV kV doc pm an (.ref cda) ct cc) (binds := ps.zip us) hr.depth ((e0.mod.kin.keeps keepB) _ _ lk) rfl (e0.mod.nolimit.keeps keepB) (PySem.W.codeRec_of (e0.mod.kin.keeps keepB) hcd) rfl hb S.nocell
    (fun x hx => S.par x.1 (List.of_mem_zip (show (x.1, x.2) ∈ ps.zip us from hx)).1) (fun h₁ hns hk => ?_) S.co S.gen S.kind
  obtain ⟨a, ta, t, hs0, hea, hta, ht, hT⟩ := hbody A outer s H vs Q E hsp
  have I : Inv (cxSup P w K mg base N qual scope f cda cc A outer s H) [] (L2.start N vs) H { s with heap := h₁, toks := s.toks + (ps.zip us).length } := inv_sup S hr.hd e0 (len _ _ _ _ hsp) r hcell hns hk
  have kIn := I.kIn
  obtain ⟨m, hn, hlk⟩ := I.loc
  obtain ⟨u0, hu0, hl0⟩ := hlk 0 ar.arg (.ref a) hself hs0 (.inl (S.par _ hps))
  obtain rfl : u0 = Value.ref a := hu0
  have hma : m ar.arg = some (.ref a) := by
    rcases hl0 with ⟨_, z⟩ | ⟨z, _⟩
    · exact z
    · have k1 : scope.names.lookup ar.arg = some .local := S.par _ hps
      rcases z with z | z
      · have z' : scope.names.lookup ar.arg = some .cell := z
        rw [k1] at z'; cases z'
      · have z' : scope.names.lookup ar.arg = some .free := z
        rw [k1] at z'; cases z'
  obtain ⟨t1, ho⟩ := exo_at I.hok hea
  obtain ⟨nm, q, N', bs, bm, sn, sub, ab, col, dd, k0, k1, k2, k3, k5, hC, hbm⟩ := T.oex.cls
  have hcl : PySem.W.clsIn K C = some { name := nm, bases := bs, mro := .ref C :: bm, ns := N', qualname := q, hasDict := true, slotNames := sn, subclasses := sub, abstract := ab, collection := col, hasDel := false } := by unfold PySem.W.clsIn; rw [hC] <;> rfl
  obtain ⟨mb, hmb, hbb⟩ := I.mod.blt
  have J : PySem.W.InstAt h₁ a { cls := .ref C, dict := none, data := .fields #[.ref t1, .none, .none, .none, .bool false, .none] } C none := ⟨ho, rfl, rfl, trivial⟩
  have hne : a ≠ C := PySem.W.ks_ne kIn J hcl
  show PySem.wpAt (model P w) (A.deeper (PySem.W.ksEnv qual scope s.heap.objs.size f (.ref cda) cc)) (.func _ (PySem.W.ksEnv qual scope s.heap.objs.size f (.ref cda) cc)) (execs _ (PySem.W.ksEnv qual scope s.heap.objs.size f (.ref cda) cc)) _ _ _
  refine ks_wpAt_execs_cons (ks_wpAt_Expr_any (ks_wpAt_MethodCall (pl := pl s.heap.objs.size) (ks_wpAt_super_base (f := f) S.sup S.cls (by decide) rfl (kIn _ _ lk) rfl hp0 rfl (kIn _ _ hcode) rfl hvs hfile T.top ?_) (hc _)) (hint _) (hsw _))
  refine PySem.W.ks_loadName_global S.kind S.sup (PySem.Calls.loadGlobal_builtin (mg := mg) (mb := mb) (I.mod.glob.keeps I.bk) hsup (hmb.keeps I.bk) ((hbb _ (by decide +kernel)).trans (by first | boot_by_name | rfl | kernel_rfl)) ⟨rfl, ?_⟩)
  refine wpAny_loadName_free S.kind S.cls rfl ⟨_, kIn _ _ hcell, rfl⟩ ?_
  refine wpAny_loadName_local S.kind (S.par _ hps) hn hma ?_
  refine ks_wpAny_isType_cls (kIn _ _ hC) rfl ⟨rfl, ?_⟩
  refine ks_wpAny_call_super (kIn _ _ hC) rfl ho rfl (fun c z => by cases z) (PySem.W.looks_mroIn kIn T.self) (fun h2 e2 kk2 => ?_)
  have I2 : Inv (cxSup P w K mg base N qual scope f cda cc A outer s H) [] (L2.start N vs) H { s with heap := h2, toks := s.toks + (ps.zip us).length } := I.kept (t' := s.toks + (ps.zip us).length) kk2
  have hm2 := T.up
  unfold PySem.W.ks_superIn at hm2
  rw [hcl] at hm2
  have J2 : PySem.W.InstAt h2 a { cls := .ref C, dict := none, data := .fields #[.ref t1, .none, .none, .none, .bool false, .none] } C none := ⟨kk2 _ _ ho, rfl, rfl, trivial⟩
  refine PySem.W.kxs_getMethod T.oex.ok.sup e2 (PySem.W.looks_opaque I2.kIn T.opq) (l₀ := .ref C :: bm) (fun A Q E s k q => wpAny_bind ((PySem.W.looks_clsIn I2.kIn hcl) A _ E s k (wpAny_pure q))) rfl I2.kIn hm2
    (J2.type.andThen (PySem.W.looks_subIn I2.kIn T.sub)) hne (by decide) ?_
  have kk3 : ∀ b' o, h2.get? b' = some o → (h2.push (PySem.W.kxs_mw b.ini a)).get? b' = some o := fun b' o z => Heap.get?_push_of_some _ z
  have I3 : Inv (cxSup P w K mg base N qual scope f cda cc A outer s H) [] (L2.start N vs) H { s with heap := h2.push (PySem.W.kxs_mw b.ini a), toks := s.toks + (ps.zip us).length + 1 } := I2.kept (t' := s.toks + (ps.zip us).length + 1) kk3
  have I4 : Inv (cxSup P w K mg base N qual scope f cda cc A outer s H) [(h2.objs.size, PySem.W.kxs_mw b.ini a)] (L2.start N vs) H { s with heap := h2.push (PySem.W.kxs_mw b.ini a), toks := s.toks + (ps.zip us).length + 1 } :=
    ⟨I3.ok, I3.os, I3.bare, I3.base, I3.loc, I3.cell, I3.free, I3.freeC, fun p hp => by
      have hp' : p = (h2.objs.size, PySem.W.kxs_mw b.ini a) := List.mem_singleton.mp hp
      subst hp'
      exact ⟨Heap.get?_push_at rfl rfl, I2.hok.fresh (Nat.le_refl _), Nat.ne_of_gt I2.lt, I2.nofs (Nat.le_refl _), fun v z => by cases z⟩, I3.hok, I3.len⟩
  have hev := he s.heap.objs.size
  have hpv := hpl s.heap.objs.size
  show wpAny (model P w) _ (callWith p3 (.ref h2.objs.size) [] (backTo p3 (starEach (e :: es) (PySem.W.ksEnv qual scope s.heap.objs.size f (.ref cda) cc))) []) _ _ _
  have ru := hta.run p3 _ _ _ _ _ I4 hT
  have ru' : wpAny (model P w) (A.deeper (PySem.W.ksEnv qual scope s.heap.objs.size f (.ref cda) cc)) (spliced (backTo p3 (starEach (e :: es) (PySem.W.ksEnv qual scope s.heap.objs.size f (.ref cda) cc)))) _ (fun _ _ => False) _ := ru
  rw [hev] at ru' ⊢
  refine PySem.W.kxs_callWith (i := b.ini) (x := a) (by show (false || (backTo p3 (starEach es _)).any (·.1)) = false; rw [hpv]; rfl) (PySem.Calls.evalArgs_plain ?_)
  refine wpAny_mono ru' (fun ws s5 h5 => ?_) fun _ _ z => z.elim
  obtain ⟨vs5, H5, I5, r5, hl5, he5, hT5⟩ := h5
  have hu5 := (I5.pin _ (List.mem_append_right _ List.mem_cons_self)).1
  refine ⟨hu5, ?_⟩
  refine boundG T.oex I5 he5 hu5 (by show ws.length ≤ sizeLine; rw [← Paired.length r5, sizeLine_eq]; omega) fun s6 I6 => ?_
  have go := ht.run _ _ _ _ _ I6 hT5
  refine wpAt_of_wpAny ?_
  refine wpAny_mono go (fun fl s7 h7 => ?_) fun _ _ z => z.elim
  match fl, h7 with
  | .ret u, ⟨v, σ2, H2, J7, rv, q7⟩ => exact ⟨v, H2, J7.os, J7.bare, J7.base, J7.hok, rv, q7⟩
  | .next, ⟨σ2, H2, J7, q7⟩ => exact ⟨V.non, H2, J7.os, J7.bare, J7.base, J7.hok, rfl, q7⟩
  | .brk, ⟨_, _, _, q7⟩ => exact q7.elim
  | .cont, ⟨_, _, _, q7⟩ => exact q7.elim
end
end Cr
/-! len(o) by an own __len__ -/
namespace Cr
open PySem PySem.Spec PyProof.Rows L2 Evl
theorem Env0.in1 {P : Program} {w : World} {K : PySem.W.Frag} {mg : Str → Option Value} {base : Heap} {A : Around} {outer : List Env} {s : Shared} {H : Hp} (e : Env0 P w K mg base A outer s H) : Env0 P w K mg base A.in1 outer s H :=
  ⟨e.frames, e.mod, e.bs, e.bsz, e.funs, e.frf, e.hok, e.bare⟩
/-- a special method of an own class, called by a built-in -/
theorem special_own {X : Cx} {pins : List (Addr × Obj)} {σ : L2.St} {H : Hp} {s : Shared} {a C dx f : Addr} {fs : List (Str × V)} {name : Str} {k : Nat} {fd : FuncData} {ps : List Str} {sp : Sp} {A : Around} {us : List Value} {vs : List V} {Q : VK} {R : Option Value → Shared → Prop} {E : Value → Shared → Prop}
    (hL : PySem.W.findIn X.K (.ref C) name = some (some (.ref f))) (tF : PySem.W.typeIn X.K (.ref f) = some (.type "function")) (F : FnOk X.prog X.w X.K X.mg X.base CX0 k f fd ps sp) (hb : Binds X.K fd ps [])
    (hr : Room k A) (e0 : Env0 X.prog X.w X.K X.mg X.base A X.stack s H) (I : Inv X pins σ H s) (ha : H a = some (.ins C dx fs)) (r : Vals vs us) (h : sp (.ref a :: vs) H Q E0)
    (k : ∀ v u H' s', Inv X pins σ H' s' → RelV v u → Q v H' → R (some u) s') : wpAny (model X.prog X.w) A (callSpecial? (.ref a) name us) R E s := by
  obtain ⟨mA, J, _⟩ := ins_get I.hok ha
  obtain ⟨od, J, _⟩ := J.look
  have look : PySem.W.Looks (model X.prog X.w) s.heap (specialOf (.ref a) name) (some (.ref f)) := J.type.andThen (PySem.W.looks_findIn I.kIn hL)
  simp only [callSpecial?]
  refine wpAny_bind (look.at ?_)
  refine wpAny_holding (wpAny_bind ((PySem.W.bind_fn I.kIn (.ref a) tF).at ?_))
  refine wpAny_bind ?_
  have rel : Vals (V.ref a :: vs) (Value.ref a :: us) := .cons rfl r
  have size : (Value.ref a :: us).length = ps.length := rel.length.symm.trans (F.len _ _ _ _ h)
  refine wpAny_call (codeAny_mono (F.run A X.stack s H ⟨.ref a :: us, []⟩ (.ref a :: us) (.ref a :: vs) Q E0 hr e0 (by
    have z := hb s (.ref a :: us) I.kIn (by simpa using size)
    simpa using z) rel h) fun res s' z => ?_)
  match res, z with
  | .error _, z => exact z.elim
  | .ok .next, z => exact False.elim z
  | .ok .brk, z => exact False.elim z
  | .ok .cont, z => exact False.elim z
  | .ok (.ret u), z =>
    obtain ⟨v, H', I', rv, q⟩ := I.after z
    exact wpAny_pure (k v u H' s' I' rv q)
def rLenO (C : Addr) (sp : Sp) : List V → Hp → VK → Prop := fun xs H Q => ∃ (a dx : Addr) (fs : List (Str × V)), xs = [.ref a] ∧ H a = some (.ins C dx fs) ∧ sp [.ref a] H (fun v H' => ∃ n : Nat, v = .int (n : Int) ∧ n ≤ 100000 ∧ Q (.int (n : Int)) H') E0
theorem call_lenO {X : Cx} {C f : Addr} {k : Nat} {fd : FuncData} {ps : List Str} {sp : Sp} (hL : PySem.W.findIn X.K (.ref C) "__len__" = some (some (.ref f))) (tF : PySem.W.typeIn X.K (.ref f) = some (.type "function"))
    (F : FnOk X.prog X.w X.K X.mg X.base CX0 k f fd ps sp) (hb : Binds X.K fd ps []) (hr : Room (k + 1) X.A) : CallR X (.builtin "len") (rLenO C sp) := by
  intro pins s σ H xs us Q I r h
  obtain ⟨a, dx, fs, rfl, ha, h⟩ := h
  obtain ⟨u, rfl, ru⟩ := vals1 r
  obtain rfl : u = Value.ref a := ru
  refine Calls.call_function_entry kind_len plain_len entry_len (args_len1 _) ?_
  unfold Builtin.«len»
  refine wpAny_bind (m := oneArg "len" _) (wpAny_pure ?_)
  refine wpAny_bind (m := callSpecial? (.ref a) (PySem.Str.ofString "__len__")) (special_own (us := []) (vs := []) hL tF F hb hr.in1 (Env0.in1 I.env0) I ha .nil h ?_)
  rintro v u H' s' I' rv ⟨n, rfl, hn, q⟩
  obtain ⟨t, rfl⟩ := rv
  refine wpAny_bind (wpAny_holding (wpAny_pure ?_))
  refine wpAny_bind (wpAny_letGo ?_)
  show wpAny _ _ (if ((n : Nat) : Int) < 0 then _ else _) _ _ _
  rw [if_neg (by omega)]
  show wpAny _ _ (if ((n : Nat) : Int) ≥ 2 ^ 63 then _ else _) _ _ _
  rw [if_neg (by omega)]
  exact wpAny_bind (wpAny_mkInt (wpAny_pure ⟨_, rfl, .int (n : Int), H', I'.tok _, ⟨_, rfl⟩, q⟩))
end Cr
/-! methods that may raise, called in a try -/
namespace Cr
open PySem PySem.Spec PyProof.Rows L2 Evl
def tMethS (C : Addr) (m : Str) (sp : Sp) (E : L2.St → XK) (ta : TE) (t : TA) : TE := fun σ H Q => ta σ H fun x H1 => ∃ a dx fs, x = .ref a ∧ H1 a = some (.ins C dx fs) ∧ fs.lookup m = none ∧ t σ H1 fun vs H2 => sp (x :: vs) H2 Q (E σ)
section
variable {X : Cx} {CX : CXT} {k : Nat} {f C : Addr} {fd : FuncData} {ps : List Str} {sp : Sp} {E : L2.St → XK} {m : Str} {pos apos : Pos} {e o : Expr} {es : List Expr} {ta : TE} {t : TA}
theorem methS0 {pl : Sem Bool} (he : PE X o ta) (c : Cls X.K C) (hm : Meth X.K C m f) (F : FnOk X.prog X.w X.K X.mg X.base CX k f fd ps sp) (hr : Room k X.A) (hb : Binds X.K fd ps []) (hx : ∀ σ, PassesAt CX X σ (E σ))
    (ht : eval (.Call (.Attribute o m apos) [] [] pos) X.env = (do
      let ov ← eval o X.env
      standAt apos.atName
      let (f, first) ← holding [ov] (getMethod ov m pl)
      callWith pos f first (backTo pos (starEach [] X.env)) (backToKw pos (keywordEach [] X.env))) := by rfl) : PE X (.Call (.Attribute o m apos) [] [] pos) (tMethS C m sp E ta tNil) := by
  constructor
  intro pins s σ H Q I h
  refine PySem.W.methodCall_KW (pl := pl) (thn (he.run pins s σ H _ I h) ?_) ht
  rintro u s1 ⟨x, H1, I1, rx, a, dx, fs, rfl, ea, l, q⟩
  obtain rfl : u = Value.ref a := rx
  refine getmeth_ok I1 ea c hm l ?_
  exact PySem.W.callWith_K0 (first := [.ref a]) I1.kIn hm.kp (run_fnS (us := [.ref a]) (vs := [.ref a]) F hr hb (hx σ) I1 (.cons rfl .nil) q)
theorem methS {pl : Sem Bool} (he : PE X o ta) (c : Cls X.K C) (hm : Meth X.K C m f) (F : FnOk X.prog X.w X.K X.mg X.base CX k f fd ps sp) (hr : Room k X.A) (hb : Binds X.K fd ps []) (hx : ∀ σ, PassesAt CX X σ (E σ)) (ha : PA X (e :: es) t)
    (hst : starEach (e :: es) X.env = (false, eval e X.env) :: starEach es X.env := by rfl) (hpl : (backTo pos (starEach es X.env)).any (·.1) = false := by rfl)
    (ht : eval (.Call (.Attribute o m apos) (e :: es) [] pos) X.env = (do
      let ov ← eval o X.env
      standAt apos.atName
      let (f, first) ← holding [ov] (getMethod ov m pl)
      callWith pos f first (backTo pos (starEach (e :: es) X.env)) (backToKw pos (keywordEach [] X.env))) := by rfl) : PE X (.Call (.Attribute o m apos) (e :: es) [] pos) (tMethS C m sp E ta t) := by
  constructor
  intro pins s σ H Q I h
  refine PySem.W.methodCall_KW (pl := pl) (thn (he.run pins s σ H _ I h) ?_) ht
  rintro u s1 ⟨x, H1, I1, rx, a, dx, fs, rfl, ea, l, q⟩
  obtain rfl : u = Value.ref a := rx
  refine getmeth_ok I1 ea c hm l ?_
  refine PySem.W.callWith_K (first := [.ref a]) (h₀ := X.base) I.ok.mod.kin hm.kp (thn (ha.run pos pins s1 σ H1 _ I1 q) ?_) hst hpl
  rintro us s2 ⟨vs, H2, I2, r, q2⟩
  exact ⟨I2.kIn, run_fnS (us := .ref a :: us) (vs := .ref a :: vs) F hr hb (hx σ) I2 (.cons rfl r) q2⟩
end
end Cr
/-! defs that may raise, where no repr is under way; a caught error asked -/
namespace Cr
open PySem PySem.Spec PyProof.Rows L2 Evl

section
variable {P : Program} {w : World} {K : PySem.W.Frag} {mg : Str → Option Value} {base : Heap}
/-- a def that may raise, by its body, where it is quiet -/
theorem okGX {x qual : Str} {st : Stmt} {f : Addr} {fd : FuncData} {N ps : List Str} {k : Nat} {sp : Sp}
    (F : Fun K x qual st f fd) (S : FnScope N ps (defScope st)) (len : ∀ vs H Q E, sp vs H Q E → vs.length = ps.length)
    (hbody : ∀ (cdv : Value) (A : Around) (outer : List Env) (s : Shared) (H : Hp) (vs : List V) (Q : VK) (E : XK),
      Quiet (A.deeper (envOfC qual (defScope st) s.heap.objs.size f cdv)) →
      Room k (A.deeper (envOfC qual (defScope st) s.heap.objs.size f cdv)) → sp vs H Q E →
      ∃ t, PSs (cxOf (L2.CX P w) P w K mg base N qual (defScope st) f cdv A outer s H E) (defBody st) t ∧
        t { nx := fun _ H' => Q .non H', rt := Q } (L2.start N vs) H) :
    FnG P w K mg base (L2.CX P w) (k + 1) f fd ps sp := by
  obtain ⟨oc, od, kV, doc, pm, an, cdv, ct, osl, rfl, lk, hcd⟩ := F.ex
  refine ⟨len, fun A outer s H args us vs Q E hq hr e0 hb r hsp => ?_⟩
  have keepB : ∀ b o, base.get? b = some o → s.heap.get? b = some o := fun b o e => (e0.bs b o e).1
  have kinds : ((ps.zip us).all fun y => (defScope st).names.lookup y.1 == some .local || (defScope st).names.lookup y.1 == some .cell) = true := by
    refine List.all_eq_true.mpr fun y hy => ?_
    obtain ⟨n, v⟩ := y
    rcases S.par n (List.of_mem_zip hy).1 with z | z
    · simp [z]
    · simp [z]
  refine Att.call_fn (binds := ps.zip us) (e0.mod.kin.keeps keepB) (e0.mod.nolimit.keeps keepB) lk hcd hr.depth hb kinds (fun s1 IC => ?_) S.co S.gen S.kind
  obtain ⟨t, ht, hT⟩ := hbody cdv A outer s H vs Q E hq (hr.deeper _) hsp
  have I := inv_start (CX := L2.CX P w) (E := E) S hr.hd e0 (len _ _ _ _ hsp) r IC
  refine wpAny_mono (ht.run [] s1 (L2.start N vs) H _ I hT) (fun fl s2 h2 => ?_) fun e s2 h2 => h2
  match fl, h2 with
  | .ret u, ⟨v, σ2, H2, J, rv, q⟩ => exact ⟨v, H2, J.os, J.bare, J.base, J.hok, rv, q⟩
  | .next, ⟨σ2, H2, J, q⟩ => exact ⟨V.non, H2, J.os, J.bare, J.base, J.hok, rfl, q⟩
  | .brk, ⟨_, _, _, q⟩ => exact q.elim
  | .cont, ⟨_, _, _, q⟩ => exact q.elim
end

section
variable {X : Cx} {CX : CXT} {k n : Nat} {f : Addr} {fd : FuncData} {ps ks : List Str} {sp : Sp} {dvs : List V} {ds : List Value} {E : L2.St → XK} {x : Str} {p pos : Pos} {e : Expr} {es : List Expr} {kws : List Keyword} {t tk : TA}
  {g : List Value → List Value → List Value} {gV : List V → List V → List V}
theorem endG {pins : List (Addr × Obj)} {σ : L2.St} {H : Hp} {s : Shared} {Q : VK} {args : Args} {E : XK} {r : Result} {s2 : Shared} (hx : PassesAt CX X σ E) (I : Inv X pins σ H s) (z : CR CX X.stack X.prog X.w H s Q E r s2) :
    wants (EP X pins σ Q) X.xe r s2 := by
  match r, z with
  | .error e, z => exact hx pins H s e s2 I z
  | .ok (.ret u), z => exact Inv.after I z
  | .ok .next, z => exact False.elim z
  | .ok .brk, z => exact False.elim z
  | .ok .cont, z => exact False.elim z
/-- f(e, ..), what is raised wished for at the caller's slots -/
theorem callGS (F : FnG X.prog X.w X.K X.mg X.base CX k f fd ps sp) (hq : Quiet X.A) (hr : Room k X.A) (hg : Gl X x)
    (hm : X.mg x = some (.ref f)) (hk : PySem.W.keepIn X.K (.ref f) = true) (hb : Binds X.K fd ps ds) (hd : Vals dvs ds) (hx : ∀ σ, PassesAt CX X σ (E σ))
    (ha : PA X (e :: es) t) (hdb : (x == ("__debug__" : Str)) = false := by decide)
    (he : starEach (e :: es) X.env = (false, eval e X.env) :: starEach es X.env := by rfl)
    (hpl : (backTo pos (starEach es X.env)).any (·.1) = false := by rfl) :
    PE X (.Call (.Name x p) (e :: es) [] pos) (tCallSD sp dvs E t) := by
  refine ⟨fun pins s σ H Q I h => ?_⟩
  refine wpAny_Call_Name_kw (ld_glob I hg hm ?_ hdb)
  refine PySem.W.callWith_K (h₀ := X.base) I.ok.mod.kin hk ?_ he hpl
  refine thn (ha.run pos pins s σ H _ I h) ?_
  rintro us s1 ⟨vs, H1, I1, r, q⟩
  refine ⟨I1.kIn, ?_⟩
  have rr : Vals (vs ++ dvs) (us ++ ds) := Vals.append r hd
  have nn : (us ++ ds).length = ps.length := rr.length.symm.trans (F.sized _ _ _ _ q)
  exact wpAny_call (codeAny_mono (F.goes X.A X.stack s1 H1 ⟨us, []⟩ (us ++ ds) (vs ++ dvs) Q (E σ) hq hr (Inv.env0 I1) (hb s1 us I1.kIn nn) rr q) fun r s' hq' => endG (args := ⟨us, []⟩) (hx σ) I1 hq')
/-- f(e, .., k = v, ..) -/
def tCallNS (n m : Nat) (sp : Sp) (gV : List V → List V → List V) (E : L2.St → XK) (t tk : TA) : TE := fun σ H Q => t σ H fun vs H1 => tk σ H1 fun zs H2 => vs.length = n ∧ zs.length = m ∧ sp (gV vs zs) H2 Q (E σ)
theorem callGN (F : FnG X.prog X.w X.K X.mg X.base CX k f fd ps sp) (hq : Quiet X.A) (hr : Room k X.A) (hg : Gl X x) (hm : X.mg x = some (.ref f)) (hk : PySem.W.keepIn X.K (.ref f) = true) (hb : KBn X.K fd ps n ks g gV) (hx : ∀ σ, PassesAt CX X σ (E σ))
    (ha : PA X (e :: es) t) (hkw : PK X kws tk) (hall : (backToKw pos (keywordEach kws X.env)).all (·.1.isSome) = true := by rfl) (hks : (backToKw pos (keywordEach kws X.env)).filterMap (·.1) = ks := by rfl)
    (hdb : (x == ("__debug__" : Str)) = false := by decide) (he : starEach (e :: es) X.env = (false, eval e X.env) :: starEach es X.env := by rfl)
    (hpl : ((backTo pos (starEach (e :: es) X.env)).any (·.1) || (backToKw pos (keywordEach kws X.env)).any (·.1.isNone)) = false := by rfl) :
    PE X (.Call (.Name x p) (e :: es) kws pos) (tCallNS n ks.length sp gV E t tk) := by
  refine ⟨fun pins s σ H Q I h => ?_⟩
  refine wpAny_Call_Name_kw (ld_glob I hg hm ?_ hdb)
  refine PySem.W.callWith_KW (h₀ := X.base) I.ok.mod.kin hk hall (thn (ha.run pos pins s σ H _ I h) fun us s1 ⟨vs, H1, I1, r, q⟩ => ?_) hpl he
  refine thn (hkw.run pos pins s1 σ H1 _ I1 q) fun ws s2 ⟨zs, H2, I2, rz, l1, l2, q2⟩ => ⟨I2.kIn, ?_⟩
  rw [hks]
  have r2 := hb.rel r rz
  exact wpAny_call (codeAny_mono (F.goes X.A X.stack s2 H2 ⟨us, ks.zip ws⟩ (g us ws) (gV vs zs) Q (E σ) hq hr I2.env0 (hb.to s2 us ws I2.kIn (r.length.symm.trans l1) (rz.length.symm.trans l2)) r2 q2) fun r s' hq' => endG (args := ⟨us, []⟩) (hx σ) I2 hq')
end

/-! ### isinstance of a caught error that has its dict -/
def rIsX (K : PySem.W.Frag) (D a dd : Addr) : List V → Hp → VK → Prop := fun xs H Q => ∃ (c : V) (b : Bool), xs = [.ref a, c] ∧ (∃ fs, H dd = some (.xd fs)) ∧
  ((∃ u, ClsV c u ∧ PySem.W.kitOne K (.ref D) u = some b) ∨ ∃ (tp : Addr) (cs : List V) (us : List Value), c = .ref tp ∧ H tp = some (.tup cs) ∧ Paired ClsV cs us ∧ PySem.W.kitAny K (.ref D) us = some b) ∧ Q (.bl b) H
theorem call_isX {X : Cx} {a D dd : Addr} {oe : Obj} {pn : List (Addr × Obj)} (C : ExcC X.K D) (hz : Zc (.ref D) (some dd) oe) (hf : ∃ vs, oe.data = .fields vs) : CallR (X.suite a ((a, oe) :: pn)) (.builtin "isinstance") (rIsX X.K D a dd) := by
  intro pins s σ H xs us Q I r h
  obtain ⟨c, b, rfl, ⟨fs, hdd⟩, k, q⟩ := h
  obtain ⟨u1, u2, rfl, r1, r2⟩ := vals2 r
  obtain rfl : u1 = Value.ref a := r1
  obtain ⟨hget, _⟩ := I.pin (a, oe) (List.mem_append.mpr (.inl List.mem_cons_self))
  obtain ⟨vs, hv⟩ := hf
  have hx : ObjOk X.prog X.w H s.heap dd (.xd fs) := I.hok dd _ hdd
  obtain ⟨mA, hns, hr⟩ := hx
  obtain ⟨od, ho, _⟩ := lookIn_ns hns
  have J : PySem.W.InstAt s.heap a oe D (some od) := by
    refine ⟨hget, hz.1, by unfold PySem.W.notCls; rw [hv] <;> rfl, ?_⟩
    rw [hz.2]
    exact ho
  have hcl : (PySem.W.clsIn X.K D).isSome = true := by
    obtain ⟨cd, hc, _⟩ := PySem.W.any_some C.hd
    rw [hc]; rfl
  have Z : PySem.W.KitX X.K (.ref a) (.ref D) (fun h => PySem.W.InstAt h a oe D (some od)) := PySem.W.kitx_exc hcl C.hg C.hk C.hs C.ha C.hn C.ht C.hm
  rcases k with ⟨u, ku, e⟩ | ⟨tp, cs, us', rfl, hT, ku, e⟩
  · have e2 := ku.eq r2
    subst e2
    exact PySem.W.kia_one Z I.kIn J e (fun z => nomatch z) fun tk => ⟨.bl b, H, I.tok tk, rfl, q⟩
  · cases (show u2 = Value.ref tp from r2)
    obtain ⟨_, its, rv, o, h1, h2, n, h3⟩ := (show ObjOk X.prog X.w H s.heap tp (.tup cs) from I.hok tp _ hT)
    have e3 := ClsV.all ku rv
    subst e3
    obtain ⟨oc, od', dt, sl⟩ := o
    simp only at h2 h3
    subst h2 h3
    exact PySem.W.kia_tup Z I.kIn J h1 e (fun z => nomatch z) fun tk => ⟨.bl b, H, I.tok tk, rfl, q⟩

/-! ### an error with one number -/
/-- its __init__: the number in the field f -/
def spInit (C : Addr) (f : Str) : Sp := fun vs H Q _ => ∃ (a : Addr) (i : Int), vs = [.ref a, .int i] ∧ i.natAbs.log2 < 1000 ∧ H a = some (exo a C none) ∧
  ∀ dx, H dx = none → dx ≠ a → Q .non (upd (upd H dx (exd dx [(f, .int i)])) a (exo a C (some dx)))
theorem mk_num {C : Addr} {f : Str} {ta : TA} {σ : L2.St} {H : Hp} {Q : XK} (h : ta σ H fun vs H1 => ∃ i : Int, vs = [.int i] ∧ i.natAbs.log2 < 1000 ∧ ∀ dx, H1 dx = none → Q (.ref C) (some dx) (upd H1 dx (.xd [(f, .int i)])))
    (mono : ∀ {σ : L2.St} {H : Hp} {R S : List V → Hp → Prop}, (∀ vs H1, R vs H1 → S vs H1) → ta σ H R → ta σ H S) : tMkO C (spInit C f) [] ta σ H Q := by
  refine mono (fun vs H1 hh => ?_) h
  obtain ⟨i, rfl, hi, q⟩ := hh
  refine ⟨by show 1 ≤ 1000; decide, fun a ha => ⟨a, i, rfl, hi, upd_same, fun dx hdx ne => ⟨rfl, dx, [(f, .int i)], upd_same, ?_, ?_, ?_⟩⟩⟩
  · rw [upd_ne ne, upd_same]
  · rw [upd_ne ne] at hdx
    exact hdx
  · have e : upd (del (upd (upd (upd H1 a (exo a C none)) dx (exd dx [(f, .int i)])) a (exo a C (some dx))) a) dx (.xd [(f, .int i)]) = upd H1 dx (.xd [(f, .int i)]) := by
      funext b
      by_cases hb : b = dx
      · rw [hb, upd_same, upd_same]
      · rw [upd_ne hb, upd_ne hb]
        by_cases hba : b = a
        · rw [hba, del_same, ha]
        · rw [del_ne hba, upd_ne hba, upd_ne hb, upd_ne hba]
    rw [e]
    rw [upd_ne ne] at hdx
    exact q dx hdx
end Cr
/-! o.m(k = v): a method called by keywords alone -/
namespace Cr
open PySem PySem.Spec PyProof.Rows L2 Evl
def tMethK (C : Addr) (m : Str) (n : Nat) (sp : Sp) (gV : List V → List V → List V) (E : L2.St → XK) (ta : TE) (tk : TA) : TE := fun σ H Q => ta σ H fun x H1 => ∃ a dx fs, x = .ref a ∧ H1 a = some (.ins C dx fs) ∧ fs.lookup m = none ∧ tk σ H1 fun zs H2 => zs.length = n ∧ sp (gV [x] zs) H2 Q (E σ)
section
variable {X : Cx} {CX : CXT} {k : Nat} {f C : Addr} {fd : FuncData} {ps ks : List Str} {sp : Sp} {E : L2.St → XK} {m : Str} {pos apos : Pos} {o : Expr} {kws : List Keyword} {ta : TE} {tk : TA} {g : List Value → List Value → List Value} {gV : List V → List V → List V}
theorem methK0 {pl : Sem Bool} (he : PE X o ta) (c : Cls X.K C) (hm : Meth X.K C m f) (F : FnOk X.prog X.w X.K X.mg X.base CX k f fd ps sp) (hr : Room k X.A) (hb : KBn X.K fd ps 1 ks g gV) (hx : ∀ σ, PassesAt CX X σ (E σ)) (hkw : PK X kws tk)
    (hall : (backToKw pos (keywordEach kws X.env)).all (·.1.isSome) = true := by rfl) (hks : (backToKw pos (keywordEach kws X.env)).filterMap (·.1) = ks := by rfl)
    (hpl : ((backTo pos (starEach [] X.env)).any (·.1) || (backToKw pos (keywordEach kws X.env)).any (·.1.isNone)) = false := by rfl)
    (ht : eval (.Call (.Attribute o m apos) [] kws pos) X.env = (do
      let ov ← eval o X.env
      standAt apos.atName
      let (f, first) ← holding [ov] (getMethod ov m pl)
      callWith pos f first (backTo pos (starEach [] X.env)) (backToKw pos (keywordEach kws X.env))) := by rfl) : PE X (.Call (.Attribute o m apos) [] kws pos) (tMethK C m ks.length sp gV E ta tk) := by
  constructor
  intro pins s σ H Q I h
  refine PySem.W.methodCall_KW (pl := pl) (thn (he.run pins s σ H _ I h) ?_) ht
  rintro u s1 ⟨x, H1, I1, rx, a, dx, fs, rfl, ea, l, q⟩
  obtain rfl : u = Value.ref a := rx
  refine getmeth_ok I1 ea c hm l ?_
  refine PySem.W.callWith_KW0 (first := [.ref a]) (h₀ := X.base) I.ok.mod.kin hm.kp hall (thn (hkw.run pos pins s1 σ H1 _ I1 q) ?_) hpl
  rintro ws s2 ⟨zs, H2, I2, rz, l2, q2⟩
  refine ⟨I2.kIn, ?_⟩
  rw [hks]
  have one : Vals [V.ref a] [Value.ref a] := .cons rfl .nil
  have rel := hb.rel one rz
  refine wpAny_call (codeAny_mono (F.run X.A X.stack s2 H2 ⟨[.ref a] ++ [], ks.zip ws⟩ (g [.ref a] ws) (gV [.ref a] zs) Q (E σ) hr I2.env0 (hb.to s2 [.ref a] ws I2.kIn rfl (rz.length.symm.trans l2)) rel q2) fun r s' hq' => ?_)
  exact endG (args := ⟨[], []⟩) (hx σ) I2 hq'
end
end Cr
/-! Cr: == and != of an own class with its own ==, from both sides -/
namespace Cr
open PySem PySem.Spec PyProof.Rows L2 Evl
section
variable {M : Model} {prog : Program} {w : World} {A : Around} {E : Value → Shared → Prop} {s : Shared} {K : PySem.W.Frag} {x C f : Addr} {ox : Obj} {od : Option Obj} {y : Value}
theorem tryEq {Q : Option Value → Shared → Prop} (X : K.In s.heap) (I : PySem.W.InstAt s.heap x ox C od) (hs : PySem.W.findIn K (.ref C) "__eq__" = some (some (.ref f))) (hf : PySem.W.isFn K (.ref f) = true)
    (h : wpAny (model prog w) A (call (.ref f) [.ref x, y]) (fun v s' => ∃ b, v = .bool b ∧ Q (some (.bool b)) s') E s) : wpAny (model prog w) A (tryCompare (.ref x) "__eq__" y) Q E s := by
  unfold tryCompare
  refine wpAny_bind (PySem.W.ifBound_K X I hs hf (wpAny_mono h (fun v s' hv => ?_) fun _ _ e => e))
  obtain ⟨b, rfl, hq⟩ := hv
  exact wpAny_pure hq
theorem ifBoundNe {args : List Value} {Q : Option Value → Shared → Prop} (X : K.In s.heap) (I : PySem.W.InstAt s.heap x ox C od) (hs : PySem.W.findIn K (.ref C) "__ne__" = some (some (.builtin "object.__ne__")))
    (h : wpAny M A (call (.builtin "object.__ne__") (.ref x :: args)) (fun v => Q (some v)) E s) : wpAny M A (callSpecialIfBound? (.ref x) "__ne__" args) Q E s := by
  simp only [callSpecialIfBound?, bindSpecialIfBound?]
  refine wpAny_holding (wpAny_bind (wpAny_bind (wpAny_bind (I.type.here ((PySem.W.looks_findIn X hs).here ?_)))))
  refine wpAny_bind (wpAny_askSetting (wpAny_ite ?_))
  have fin : wpAny M A (call (.builtin "object.__ne__") ([.ref x] ++ args) >>= fun v => pure (some v)) Q E s := wpAny_bind (wpAny_mono h (fun v s' h' => wpAny_pure h') fun _ _ h' => h')
  split
  · exact wpAny_bind (wpAny_of_eq (F.cmp_object.ne.bind _) (wpAny_pure (by exact fin)))
  · exact wpAny_tryCatch (wpAny_bind (wpAny_of_eq (F.cmp_object.ne.bind _) (wpAny_pure (by exact fin))))
theorem entryNe {Q : Fin → Shared → Prop} (hu : A.units < cLine) (X : K.In s.heap) (I : PySem.W.InstAt s.heap x ox C od) (hs : PySem.W.findIn K (.ref C) "__eq__" = some (some (.ref f))) (hf : PySem.W.isFn K (.ref f) = true)
    (h : wpAny (model prog w) A (call (.ref f) [.ref x, y]) (fun v s' => ∃ b, v = .bool b ∧ Q (.done (.ret (.bool (!b)))) s') E s) : wpAny (model prog w) A (Builtin.«object.__ne__» ⟨[.ref x, y], []⟩) Q E s := by
  unfold Builtin.«object.__ne__»
  repeat (first
    | with_reducible refine wpAny_cRoomFor hu ?_
    | (refine wpAny_bind (m := callSpecialIfBound? (.ref x) (Str.ofString "__eq__") [y])
        (PySem.W.ifBound_K X I hs hf (wpAny_mono h (fun r s' hr => by
          obtain ⟨b, rfl, hq⟩ := hr
          repeat (first | exact hq | exact wpAny_pure hq | exact wpAny_truthy_bool hq | (refine wpAny_bind (m := truthy (.bool _)) (wpAny_truthy_bool ?_)) | wp_step)) fun _ _ e => e)))
    | wp_step)
theorem tryNe {Q : Option Value → Shared → Prop} (hu : A.units + 1 < cLine) (X : K.In s.heap) (I : PySem.W.InstAt s.heap x ox C od) (hs : PySem.W.findIn K (.ref C) "__eq__" = some (some (.ref f))) (hf : PySem.W.isFn K (.ref f) = true)
    (hn : PySem.W.findIn K (.ref C) "__ne__" = some (some (.builtin "object.__ne__"))) (hm : PySem.W.mroIn K C (.type "object") = some true)
    (h : wpAny (model prog w) A.in1 (call (.ref f) [.ref x, y]) (fun v s' => ∃ b, v = .bool b ∧ Q (some (.bool (!b))) s') E s) : wpAny (model prog w) A (tryCompare (.ref x) "__ne__" y) Q E s := by
  unfold tryCompare
  refine wpAny_bind (ifBoundNe X I hn (wpAny_call (codeAny_call_builtin F.cmp_object.ne.plain F.cmpEntry_ne (PySem.W.check_slot F.cmpKind_ne F.cmpSplit_ne (I.type.andThen (PySem.W.looks_mroIn X hm)) (F.cmpArgs_ne _ _)
    (entryNe (A := A.in1) hu X I hs hf (wpAny_mono h (fun v s' hv => ?_) fun _ _ e => e))))))
  obtain ⟨b, rfl, hq⟩ := hv
  exact ⟨b, rfl, wpAny_pure hq⟩
end
end Cr
/-! Cr: the comparison itself, own object at the left or at the right -/
namespace Cr
open PySem PySem.Spec PyProof.Rows L2 Evl
section
variable {M : Model} {prog : Program} {w : World} {A : Around} {E : Value → Shared → Prop} {s : Shared} {K : PySem.W.Frag} {x C f : Addr} {ox : Obj} {od : Option Obj} {y tb : Value} {T : String}
theorem rcNeL {Q : Value → Shared → Prop} (hu : A.units + 1 < cLine) (X : K.In s.heap) (I : PySem.W.InstAt s.heap x ox C od) (hb : PySem.W.Looks (model prog w) s.heap (typeOf y) tb) (hnf : PySem.W.notFirst K C tb = true)
    (hs : PySem.W.findIn K (.ref C) "__eq__" = some (some (.ref f))) (hf : PySem.W.isFn K (.ref f) = true) (hn : PySem.W.findIn K (.ref C) "__ne__" = some (some (.builtin "object.__ne__"))) (hm : PySem.W.mroIn K C (.type "object") = some true)
    (h : wpAny (model prog w) A.in1 (call (.ref f) [.ref x, y]) (fun v s' => ∃ b, v = .bool b ∧ Q (.bool (!b)) s') E s) : wpAny (model prog w) A (richCompare .NotEq (.ref x) y) Q E s := by
  have one : wpAny (model prog w) A (tryCompare (.ref x) "__ne__" y) (fun r s' => ∃ v, r = some v ∧ Q v s') E s :=
    tryNe hu X I hs hf hn hm (wpAny_mono h (fun v s' hv => by obtain ⟨b, rfl, hq⟩ := hv; exact ⟨b, rfl, _, rfl, hq⟩) fun _ _ e => e)
  unfold richCompare
  simp only [oneThing_ref]
  refine wpAny_holding (wpAny_bind (wpAny_cRoomFor (by omega) ?_))
  refine wpAny_bind (I.type.here (wpAny_bind (hb.here ?_)))
  split
  · rename_i q
    have e : PySem.W.subIn K tb (.ref C) = some false := by
      rcases Bool.or_eq_true_iff.mp hnf with e | e
      · rw [beq_iff_eq.mp e] at q; simp at q
      · exact beq_iff_eq.mp e
    refine wpAny_bind ((PySem.W.looks_subIn X e).here ?_)
    simp only [Bool.false_eq_true, if_false]
    refine wpAny_bind (wpAny_mono one (fun r s' z => ?_) fun _ _ e => e)
    obtain ⟨v, rfl, hq⟩ := z
    exact wpAny_pure hq
  · refine wpAny_bind (wpAny_pure ?_)
    simp only [Bool.false_eq_true, if_false]
    refine wpAny_bind (wpAny_mono one (fun r s' z => ?_) fun _ _ e => e)
    obtain ⟨v, rfl, hq⟩ := z
    exact wpAny_pure hq
theorem rcEqR {Q : Value → Shared → Prop} (hu : A.units < cLine) (X : K.In s.heap) (I : PySem.W.InstAt s.heap x ox C od) (hT : s.TypeIs y T) (hsub : PySem.W.subIn K (.ref C) (.type T) = some false)
    (hd : wpAny (model prog w) A (tryCompare y "__eq__" (.ref x)) (fun r s' => r = none ∧ s' = s) E s)
    (hs : PySem.W.findIn K (.ref C) "__eq__" = some (some (.ref f))) (hf : PySem.W.isFn K (.ref f) = true)
    (h : wpAny (model prog w) A (call (.ref f) [.ref x, y]) (fun v s' => ∃ b, v = .bool b ∧ Q (.bool b) s') E s) : wpAny (model prog w) A (richCompare .Eq y (.ref x)) Q E s := by
  have one : wpAny (model prog w) A (tryCompare (.ref x) "__eq__" y) (fun r s' => ∃ v, r = some v ∧ Q v s') E s :=
    tryEq X I hs hf (wpAny_mono h (fun v s' hv => by obtain ⟨b, rfl, hq⟩ := hv; exact ⟨b, rfl, _, rfl, hq⟩) fun _ _ e => e)
  simp only [richCompare, cmpInfo, hT.oneThing_none]
  refine wpAny_holding (wpAny_bind (wpAny_cRoomFor hu ?_))
  refine wpAny_bind (wpAny_typeOf hT ?_)
  refine wpAny_bind (I.type.here ?_)
  split
  · refine wpAny_bind ((PySem.W.looks_subIn X hsub).here ?_)
    simp only [Bool.false_eq_true, if_false, Bool.not_false, if_true]
    refine wpAny_bind (m := tryCompare y _ (.ref x)) (wpAny_mono hd (fun r s1 z => ?_) fun _ _ e => e)
    obtain ⟨rfl, rfl⟩ := z
    refine wpAny_bind (m := tryCompare (.ref x) _ y) (wpAny_mono one (fun r s2 z => ?_) fun _ _ e => e)
    obtain ⟨v, rfl, hq⟩ := z
    exact wpAny_pure hq
  · rename_i q
    exact absurd (by simp) q
theorem rcNeR {Q : Value → Shared → Prop} (hu : A.units + 1 < cLine) (X : K.In s.heap) (I : PySem.W.InstAt s.heap x ox C od) (hT : s.TypeIs y T) (hsub : PySem.W.subIn K (.ref C) (.type T) = some false)
    (hd : wpAny (model prog w) A (tryCompare y "__ne__" (.ref x)) (fun r s' => r = none ∧ s' = s) E s)
    (hs : PySem.W.findIn K (.ref C) "__eq__" = some (some (.ref f))) (hf : PySem.W.isFn K (.ref f) = true) (hn : PySem.W.findIn K (.ref C) "__ne__" = some (some (.builtin "object.__ne__"))) (hm : PySem.W.mroIn K C (.type "object") = some true)
    (h : wpAny (model prog w) A.in1 (call (.ref f) [.ref x, y]) (fun v s' => ∃ b, v = .bool b ∧ Q (.bool (!b)) s') E s) : wpAny (model prog w) A (richCompare .NotEq y (.ref x)) Q E s := by
  have one : wpAny (model prog w) A (tryCompare (.ref x) "__ne__" y) (fun r s' => ∃ v, r = some v ∧ Q v s') E s :=
    tryNe hu X I hs hf hn hm (wpAny_mono h (fun v s' hv => by obtain ⟨b, rfl, hq⟩ := hv; exact ⟨b, rfl, _, rfl, hq⟩) fun _ _ e => e)
  simp only [richCompare, cmpInfo, hT.oneThing_none]
  refine wpAny_holding (wpAny_bind (wpAny_cRoomFor (by omega) ?_))
  refine wpAny_bind (wpAny_typeOf hT ?_)
  refine wpAny_bind (I.type.here ?_)
  split
  · refine wpAny_bind ((PySem.W.looks_subIn X hsub).here ?_)
    simp only [Bool.false_eq_true, if_false, Bool.not_false, if_true]
    refine wpAny_bind (m := tryCompare y _ (.ref x)) (wpAny_mono hd (fun r s1 z => ?_) fun _ _ e => e)
    obtain ⟨rfl, rfl⟩ := z
    refine wpAny_bind (m := tryCompare (.ref x) _ y) (wpAny_mono one (fun r s2 z => ?_) fun _ _ e => e)
    obtain ⟨v, rfl, hq⟩ := z
    exact wpAny_pure hq
  · rename_i q
    exact absurd (by simp) q
/-! ### the built-in side declines -/
abbrev Decl (prog : Program) (w : World) (A : Around) (E : Value → Shared → Prop) (s : Shared) (y : Value) (nm : Str) (x : Addr) : Prop := wpAny (model prog w) A (tryCompare y nm (.ref x)) (fun r s' => r = none ∧ s' = s) E s
theorem declNone_eq : Decl prog w A E s .none "__eq__" x := wpAny_tryCompare_declines (show s.TypeIs .none "NoneType" from rfl) F.slot_NoneType_eq_refl (call_gives F.slot_NoneType_eq_refl rfl F.entry_NoneType_eq (F.args_NoneType_eq_2 _ _) (SeqAt.NoneType___eq___none_ref_0 x) ⟨rfl, rfl, rfl⟩)
theorem declNone_ne : Decl prog w A E s .none "__ne__" x := wpAny_tryCompare_declines (show s.TypeIs .none "NoneType" from rfl) F.slot_NoneType_ne (call_gives F.slot_NoneType_ne rfl F.entry_NoneType_ne (F.args_NoneType_ne_2 _ _) (SeqAt.NoneType___ne___none_ref_0 x) ⟨rfl, rfl, rfl⟩)
theorem isInstNo {R : Bool → Shared → Prop} (X : K.In s.heap) (I : PySem.W.InstAt s.heap x ox C od) (hsub : PySem.W.subIn K (.ref C) (.type T) = some false) (h : R false s) : wpAny M A (isInstance (.ref x) (.type T)) R E s := by
  unfold isInstance
  exact wpAny_bind (I.type.here ((PySem.W.looks_subIn X hsub).here h))
variable {l : Addr}
theorem declInt_eq {i : Int} {t : Tok} {dx : Addr} (hx : s.heap.get? x = some (PySem.W.instObj C dx)) : Decl prog w A E s (.int i t) "__eq__" x := by
  refine wpAny_tryCompare_declines (typeIs_int s i t) F.slot_int_eq (wpAny_call_entry F.slot_int_eq (typeIs_int s i t) F.entry_int_eq ?_ (F.args_int_eq_2 _ _))
  show wpAny _ _ (Builtin.Int.intBinary "__eq__" (fun x y => ret (.bool (x == y))) false ⟨[.int i t, .ref x], []⟩) _ _ s
  unfold Builtin.Int.intBinary
  repeat (first | with_reducible refine wpAny_load hx ?_ | wp_step)
  exact ⟨_, rfl, rfl, rfl, rfl⟩
theorem declStr_eq {z : Str} {t : Tok} {dx : Addr} (hx : s.heap.get? x = some (PySem.W.instObj C dx)) : Decl prog w A E s (.str z t) "__eq__" x := by
  refine wpAny_tryCompare_declines (typeIs_str s z t) F.slot_str_eq (wpAny_call_entry F.slot_str_eq (typeIs_str s z t) F.entry_str_eq ?_ (F.args_str_eq_2 _ _))
  show wpAny _ _ (Builtin.Str.strCompare "__eq__" _ ⟨[.str z t, .ref x], []⟩) _ _ s
  unfold Builtin.Str.strCompare Builtin.Str.strSlot
  repeat (first | with_reducible refine wpAny_load hx ?_ | wp_step)
  exact ⟨_, rfl, rfl, rfl, rfl⟩
theorem declLst_eq (hT : s.TypeIs (.ref l) "list") (X : K.In s.heap) (I : PySem.W.InstAt s.heap x ox C od) (hsub : PySem.W.subIn K (.ref C) (.type "list") = some false) : Decl prog w A E s (.ref l) "__eq__" x := by
  refine wpAny_tryCompare_declines hT F.slot_list_eq (wpAny_call_entry F.slot_list_eq hT F.entry_list_eq ?_ (F.args_list_eq_2 _ _))
  show wpAny _ _ (slotArgs "__eq__" 1 ⟨[.ref l, .ref x], []⟩ >>= _) _ _ s
  repeat (first | with_reducible refine isInstNo X I hsub ?_ | wp_step)
  exact ⟨_, rfl, rfl, rfl, rfl⟩
theorem declTup_eq (hT : s.TypeIs (.ref l) "tuple") (X : K.In s.heap) (I : PySem.W.InstAt s.heap x ox C od) (hsub : PySem.W.subIn K (.ref C) (.type "tuple") = some false) : Decl prog w A E s (.ref l) "__eq__" x := by
  refine wpAny_tryCompare_declines hT F.slot_tuple_eq (wpAny_call_entry F.slot_tuple_eq hT F.entry_tuple_eq ?_ (F.args_tuple_eq_2 _ _))
  show wpAny _ _ (slotArgs "__eq__" 1 ⟨[.ref l, .ref x], []⟩ >>= _) _ _ s
  repeat (first | with_reducible refine isInstNo X I hsub ?_ | wp_step)
  exact ⟨_, rfl, rfl, rfl, rfl⟩
theorem declDct_eq (hT : s.TypeIs (.ref l) "dict") (X : K.In s.heap) (I : PySem.W.InstAt s.heap x ox C od) (hsub : PySem.W.subIn K (.ref C) (.type "dict") = some false) : Decl prog w A E s (.ref l) "__eq__" x := by
  refine wpAny_tryCompare_declines hT F.slot_dict_eq (wpAny_call_entry F.slot_dict_eq hT F.entry_dict_eq ?_ (F.args_dict_eq_2 _ _))
  show wpAny _ _ (Builtin.Dict.dictSlotArgs "__eq__" ⟨[.ref l, .ref x], []⟩ >>= _) _ _ s
  refine wpAny_bind ?_
  unfold Builtin.Dict.dictSlotArgs
  refine wpAny_bind (wpAny_notOrdered_dict hT ?_)
  repeat (first | with_reducible refine isInstNo X I hsub ?_ | wp_step)
  exact ⟨_, rfl, rfl, rfl, rfl⟩
theorem declInt_ne {i : Int} {t : Tok} {dx : Addr} (hx : s.heap.get? x = some (PySem.W.instObj C dx)) : Decl prog w A E s (.int i t) "__ne__" x := by
  refine wpAny_tryCompare_declines (typeIs_int s i t) F.slot_int_ne (wpAny_call_entry F.slot_int_ne (typeIs_int s i t) F.entry_int_ne ?_ (F.args_int_ne_2 _ _))
  show wpAny _ _ (Builtin.Int.intBinary "__ne__" (fun x y => ret (.bool (x != y))) false ⟨[.int i t, .ref x], []⟩) _ _ s
  unfold Builtin.Int.intBinary
  repeat (first | with_reducible refine wpAny_load hx ?_ | wp_step)
  exact ⟨_, rfl, rfl, rfl, rfl⟩
theorem declStr_ne {z : Str} {t : Tok} {dx : Addr} (hx : s.heap.get? x = some (PySem.W.instObj C dx)) : Decl prog w A E s (.str z t) "__ne__" x := by
  refine wpAny_tryCompare_declines (typeIs_str s z t) F.slot_str_ne (wpAny_call_entry F.slot_str_ne (typeIs_str s z t) F.entry_str_ne ?_ (F.args_str_ne_2 _ _))
  show wpAny _ _ (Builtin.Str.strCompare "__ne__" _ ⟨[.str z t, .ref x], []⟩) _ _ s
  unfold Builtin.Str.strCompare Builtin.Str.strSlot
  repeat (first | with_reducible refine wpAny_load hx ?_ | wp_step)
  exact ⟨_, rfl, rfl, rfl, rfl⟩
theorem declLst_ne (hT : s.TypeIs (.ref l) "list") (X : K.In s.heap) (I : PySem.W.InstAt s.heap x ox C od) (hsub : PySem.W.subIn K (.ref C) (.type "list") = some false) : Decl prog w A E s (.ref l) "__ne__" x := by
  refine wpAny_tryCompare_declines hT F.slot_list_ne (wpAny_call_entry F.slot_list_ne hT F.entry_list_ne ?_ (F.args_list_ne_2 _ _))
  show wpAny _ _ (slotArgs "__ne__" 1 ⟨[.ref l, .ref x], []⟩ >>= _) _ _ s
  repeat (first | with_reducible refine isInstNo X I hsub ?_ | wp_step)
  exact ⟨_, rfl, rfl, rfl, rfl⟩
theorem declTup_ne (hT : s.TypeIs (.ref l) "tuple") (X : K.In s.heap) (I : PySem.W.InstAt s.heap x ox C od) (hsub : PySem.W.subIn K (.ref C) (.type "tuple") = some false) : Decl prog w A E s (.ref l) "__ne__" x := by
  refine wpAny_tryCompare_declines hT F.slot_tuple_ne (wpAny_call_entry F.slot_tuple_ne hT F.entry_tuple_ne ?_ (F.args_tuple_ne_2 _ _))
  show wpAny _ _ (slotArgs "__ne__" 1 ⟨[.ref l, .ref x], []⟩ >>= _) _ _ s
  repeat (first | with_reducible refine isInstNo X I hsub ?_ | wp_step)
  exact ⟨_, rfl, rfl, rfl, rfl⟩
theorem declDct_ne (hT : s.TypeIs (.ref l) "dict") (X : K.In s.heap) (I : PySem.W.InstAt s.heap x ox C od) (hsub : PySem.W.subIn K (.ref C) (.type "dict") = some false) : Decl prog w A E s (.ref l) "__ne__" x := by
  refine wpAny_tryCompare_declines hT F.slot_dict_ne (wpAny_call_entry F.slot_dict_ne hT F.entry_dict_ne ?_ (F.args_dict_ne_2 _ _))
  show wpAny _ _ (Builtin.Dict.dictSlotArgs "__ne__" ⟨[.ref l, .ref x], []⟩ >>= _) _ _ s
  refine wpAny_bind ?_
  unfold Builtin.Dict.dictSlotArgs
  refine wpAny_bind (wpAny_notOrdered_dict hT ?_)
  repeat (first | with_reducible refine isInstNo X I hsub ?_ | wp_step)
  exact ⟨_, rfl, rfl, rfl, rfl⟩
end
end Cr
/-! Cr: == and != as expressions, for a class with its own == -/
namespace Cr
open PySem PySem.Spec PyProof.Rows L2 Evl
/-- what the top says of the class -/
structure EqC (K : PySem.W.Frag) (C f : Addr) : Prop where
  eq : PySem.W.findIn K (.ref C) "__eq__" = some (some (.ref f))
  fn : PySem.W.isFn K (.ref f) = true
  ne : PySem.W.findIn K (.ref C) "__ne__" = some (some (.builtin "object.__ne__"))
  ob : PySem.W.mroIn K C (.type "object") = some true
  sn : PySem.W.subIn K (.ref C) (.type "NoneType") = some false
  si : PySem.W.subIn K (.ref C) (.type "int") = some false
  ss : PySem.W.subIn K (.ref C) (.type "str") = some false
  sl : PySem.W.subIn K (.ref C) (.type "list") = some false
  st : PySem.W.subIn K (.ref C) (.type "tuple") = some false
  sd : PySem.W.subIn K (.ref C) (.type "dict") = some false
/-- data at the other side -/
def OthB (H : Hp) : V → Prop
  | .non => True
  | .int _ => True
  | .str _ => True
  | .ref p => (∃ xs, H p = some (.lst xs)) ∨ (∃ xs, H p = some (.tup xs)) ∨ ∃ kvs, H p = some (.dK kvs)
  | _ => False
theorem OthB.ex {H H' : Hp} {y : V} (h : OthB H y) (e : Ex H H') : OthB H' y := by
  cases y with
  | ref p =>
    rcases h with ⟨xs, z⟩ | ⟨xs, z⟩ | ⟨xs, z⟩
    · exact .inl ⟨xs, e _ _ z⟩
    · exact .inr (.inl ⟨xs, e _ _ z⟩)
    · exact .inr (.inr ⟨xs, e _ _ z⟩)
  | _ => exact h
theorem subB {K : PySem.W.Frag} {C : Addr} {T : String} {l : List Value} (e : fastBuiltinMro T = some l) (n : l.contains (.ref C) = false) : PySem.W.subIn K (.type T) (.ref C) = some false := by
  show (fastBuiltinMro T).map (·.contains (.ref C)) = some false
  rw [e]
  show some (l.contains (.ref C)) = some false
  rw [n]
section
variable {X : Cx} {n : Nat} {C f : Addr} {fd : FuncData} {ps : List Str} {sp : Sp} {E : XK} {CX : CXT}
theorem runOwn {A : Around} {pins : List (Addr × Obj)} {σ : L2.St} {H : Hp} {s : Shared} {vs : List V} {us : List Value} {Q : VK} (F : FnOk X.prog X.w X.K X.mg X.base CX n f fd ps sp) (hb : Binds X.K fd ps []) (hx : Passes CX X E) (sb : L2.Sub X n A) (I : Inv X pins σ H s) (r : Vals vs us) (hsp : sp vs H Q E) :
    wpAny (model X.prog X.w) A (call (.ref f) us) (fun v s' => ∃ z H', Inv X pins σ H' s' ∧ RelV z v ∧ Q z H') X.xe s := by
  have e0 : Env0 X.prog X.w X.K X.mg X.base A X.stack s H := by
    have e := I.env0
    exact ⟨by rw [sb.fr]; exact e.frames, e.mod, e.bs, e.bsz, e.funs, e.frf, e.hok, e.bare⟩
  have hl := F.len _ _ _ _ hsp
  refine wpAny_call (codeAny_mono (F.run A X.stack s H ⟨us, []⟩ us vs _ E sb.room e0 (by
    have := hb s us I.kIn (by rw [List.append_nil, ← r.length]; exact hl)
    simpa using this) r hsp) fun r s' hq => ?_)
  cases r with
  | error e => exact hx pins σ H s e s' I hq
  | ok fl =>
    cases fl with
    | ret w =>
      obtain ⟨z, H', I', rz, q⟩ := I.after hq
      exact ⟨z, H', I', rz, q⟩
    | next => exact False.elim hq
    | brk => exact False.elim hq
    | cont => exact False.elim hq
theorem looksT {M : Model} {s : Shared} {u : Value} {T : String} (h : s.TypeIs u T) : PySem.W.Looks M s.heap (typeOf u) (.type T) := by
  cases u with
  | ref a =>
    obtain ⟨o, ho, hc⟩ := h
    exact hc ▸ (PySem.W.Looks.ld ho).andThen .now
  | _ => exact PySem.W.Looks.of_pure h
/-- the type of what stands at the other side, and that it declines -/
theorem othT {pins : List (Addr × Obj)} {σ : L2.St} {H : Hp} {s : Shared} {y : V} {u : Value} (T : EqC X.K C f) (I : Inv X pins σ H s) (r : RelV y u) (h : OthB H y) {A : Around} {Ex' : Value → Shared → Prop} {a dx : Addr} (hx : s.heap.get? a = some (PySem.W.instObj C dx)) {od : Option Obj} (J : PySem.W.InstAt s.heap a (PySem.W.instObj C dx) C od) :
    ∃ N : String, s.TypeIs u N ∧ PySem.W.subIn X.K (.type N) (.ref C) = some false ∧ PySem.W.subIn X.K (.ref C) (.type N) = some false ∧ Decl X.prog X.w A Ex' s u "__eq__" a ∧ Decl X.prog X.w A Ex' s u "__ne__" a := by
  have tyd : ∀ {p : Addr} {N : String}, tyV X.K N (.ref p) H → s.TypeIs (.ref p) N := fun t => (tyV_is I (show RelV (.ref _) (.ref _) from rfl) t).1
  cases y with
  | non =>
    obtain rfl : u = .none := r
    exact ⟨"NoneType", rfl, subB (l := [.type "NoneType", .type "object"]) (by decide +kernel) (by simp), T.sn, declNone_eq, declNone_ne⟩
  | int i =>
    obtain ⟨t, rfl⟩ := r
    exact ⟨"int", typeIs_int s i t, subB (l := [.type "int", .type "object"]) (by decide +kernel) (by simp), T.si, declInt_eq hx, declInt_ne hx⟩
  | str z =>
    obtain ⟨t, rfl⟩ := r
    exact ⟨"str", typeIs_str s z t, subB (l := [.type "str", .type "object"]) (by decide +kernel) (by simp), T.ss, declStr_eq hx, declStr_ne hx⟩
  | ref p =>
    obtain rfl : u = .ref p := r
    rcases h with ⟨xs, z⟩ | ⟨xs, z⟩ | ⟨kvs, z⟩
    · have ty := tyd (N := "list") (.inl ⟨rfl, xs, sq_of z⟩)
      exact ⟨"list", ty, subB (l := [.type "list", .type "object"]) (by decide +kernel) (by simp), T.sl, declLst_eq ty I.kIn J T.sl, declLst_ne ty I.kIn J T.sl⟩
    · have ty : s.TypeIs (.ref p) "tuple" := by
        obtain ⟨_, _, _, o, e⟩ := I.hok p _ z
        exact ⟨_, e.1, e.2.1⟩
      exact ⟨"tuple", ty, subB (l := [.type "tuple", .type "object"]) (by decide +kernel) (by simp), T.st, declTup_eq ty I.kIn J T.st, declTup_ne ty I.kIn J T.st⟩
    · have ty := tyd (N := "dict") (.inr (.inr (.inl ⟨rfl, .inl ⟨kvs, z⟩⟩)))
      exact ⟨"dict", ty, subB (l := [.type "dict", .type "object"]) (by decide +kernel) (by simp), T.sd, declDct_eq ty I.kIn J T.sd, declDct_ne ty I.kIn J T.sd⟩
  | _ => exact False.elim h
def rOwn (C : Addr) (neg : Bool) (sp : Sp) (E : XK) : R2 := fun x y H Q =>
  (∃ a dx fs, x = .ref a ∧ H a = some (.ins C dx fs) ∧ (OthB H y ∨ ∃ b dy gs, y = .ref b ∧ H b = some (.ins C dy gs)) ∧ sp [x, y] H (fun v H' => ∃ r, v = .bl r ∧ Q (.bl (if neg then !r else r)) H') E) ∨
  (∃ a dx fs, y = .ref a ∧ H a = some (.ins C dx fs) ∧ OthB H x ∧ sp [y, x] H (fun v H' => ∃ r, v = .bl r ∧ Q (.bl (if neg then !r else r)) H') E)
theorem insAt {pins : List (Addr × Obj)} {σ : L2.St} {H : Hp} {s : Shared} {a dx : Addr} {fs : List (Str × V)} (I : Inv X pins σ H s) (h : H a = some (.ins C dx fs)) : s.heap.get? a = some (PySem.W.instObj C dx) ∧ ∃ od, PySem.W.InstAt s.heap a (PySem.W.instObj C dx) C od := by
  obtain ⟨mA, O, _⟩ := ins_get I.hok h
  obtain ⟨od, J, _⟩ := O.look
  have e := (show ObjOk X.prog X.w H s.heap a (.ins C dx fs) from I.hok a _ h).2.2.2.1
  have e2 := J.at_
  rw [e] at e2
  cases e2
  exact ⟨e, od, J⟩
theorem op_ownEq (T : EqC X.K C f) (F : FnOk X.prog X.w X.K X.mg X.base CX n f fd ps sp) (hb : Binds X.K fd ps []) (hx : Passes CX X E) (hr : Room n X.A) : OpR X (compareOp .Eq) (rOwn C false sp E) := by
  intro pins s σ H x y v u Q I rx ry h
  show wpAny (model X.prog X.w) X.A (richCompare .Eq v u) (EP X pins σ Q) X.xe s
  have sb : L2.Sub X n X.A := ⟨hr, rfl⟩
  obtain ⟨m, hF⟩ := I.fr
  rcases h with ⟨a, dx, fs, rfl, ha, ho, hsp⟩ | ⟨a, dx, fs, rfl, ha, ho, hsp⟩
  · obtain rfl : v = .ref a := rx
    obtain ⟨e, od, J⟩ := insAt I ha
    obtain ⟨tb, lb, nf⟩ : ∃ tb, PySem.W.Looks (model X.prog X.w) s.heap (typeOf u) tb ∧ PySem.W.notFirst X.K C tb = true := by
      rcases ho with ho | ⟨b, dy, gs, rfl, hb'⟩
      · obtain ⟨N, ty, s1, s2, _⟩ := othT (A := X.A) (Ex' := X.xe) T I ry ho e J
        exact ⟨_, looksT ty, by unfold PySem.W.notFirst; rw [s1]; simp⟩
      · obtain rfl : u = .ref b := ry
        obtain ⟨e2, od2, J2⟩ := insAt I hb'
        exact ⟨_, J2.type, by simp [PySem.W.notFirst]⟩
    refine PySem.W.cmp_K (op := .Eq) (tb := tb) hr.units0 hF I.ok.mod.kin J lb nf T.eq T.fn (wpAny_mono (runOwn F hb hx sb I (.cons (show RelV (.ref a) (.ref a) from rfl) (.cons ry .nil)) hsp) (fun v' s' q => ?_) fun _ _ z => z)
    obtain ⟨z, H', I', rz, r, rfl, q⟩ := q
    obtain rfl : v' = .bool r := rz
    exact ⟨.bl r, H', I', rfl, q⟩
  · obtain rfl : u = .ref a := ry
    obtain ⟨e, od, J⟩ := insAt I ha
    obtain ⟨N, ty, s1, s2, d1, d2⟩ := othT (A := X.A) (Ex' := X.xe) T I rx ho e J
    refine rcEqR hr.units0 I.kIn J ty s2 d1 T.eq T.fn (wpAny_mono (runOwn F hb hx sb I (.cons (show RelV (.ref a) (.ref a) from rfl) (.cons rx .nil)) hsp) (fun v' s' q => ?_) fun _ _ z => z)
    obtain ⟨z, H', I', rz, r, rfl, q⟩ := q
    obtain rfl : v' = .bool r := rz
    exact ⟨r, rfl, .bl r, H', I', rfl, q⟩
theorem op_ownNe (T : EqC X.K C f) (F : FnOk X.prog X.w X.K X.mg X.base CX n f fd ps sp) (hb : Binds X.K fd ps []) (hx : Passes CX X E) (hr : Room (n + 1) X.A) : OpR X (compareOp .NotEq) (rOwn C true sp E) := by
  intro pins s σ H x y v u Q I rx ry h
  show wpAny (model X.prog X.w) X.A (richCompare .NotEq v u) (EP X pins σ Q) X.xe s
  have sb : L2.Sub X n X.A.in1 := L2.Sub.in1 ⟨hr, rfl⟩
  have hu : X.A.units + 1 < cLine := hr.in1.units0
  rcases h with ⟨a, dx, fs, rfl, ha, ho, hsp⟩ | ⟨a, dx, fs, rfl, ha, ho, hsp⟩
  · obtain rfl : v = .ref a := rx
    obtain ⟨e, od, J⟩ := insAt I ha
    obtain ⟨tb, lb, nf⟩ : ∃ tb, PySem.W.Looks (model X.prog X.w) s.heap (typeOf u) tb ∧ PySem.W.notFirst X.K C tb = true := by
      rcases ho with ho | ⟨b, dy, gs, rfl, hb'⟩
      · obtain ⟨N, ty, s1, s2, _⟩ := othT (A := X.A) (Ex' := X.xe) T I ry ho e J
        exact ⟨_, looksT ty, by unfold PySem.W.notFirst; rw [s1]; simp⟩
      · obtain rfl : u = .ref b := ry
        obtain ⟨e2, od2, J2⟩ := insAt I hb'
        exact ⟨_, J2.type, by simp [PySem.W.notFirst]⟩
    refine rcNeL hu I.kIn J lb nf T.eq T.fn T.ne T.ob (wpAny_mono (runOwn F hb hx sb I (.cons (show RelV (.ref a) (.ref a) from rfl) (.cons ry .nil)) hsp) (fun v' s' q => ?_) fun _ _ z => z)
    obtain ⟨z, H', I', rz, r, rfl, q⟩ := q
    obtain rfl : v' = .bool r := rz
    exact ⟨r, rfl, .bl (!r), H', I', rfl, q⟩
  · obtain rfl : u = .ref a := ry
    obtain ⟨e, od, J⟩ := insAt I ha
    obtain ⟨N, ty, s1, s2, d1, d2⟩ := othT (A := X.A) (Ex' := X.xe) T I rx ho e J
    refine rcNeR hu I.kIn J ty s2 d2 T.eq T.fn T.ne T.ob (wpAny_mono (runOwn F hb hx sb I (.cons (show RelV (.ref a) (.ref a) from rfl) (.cons rx .nil)) hsp) (fun v' s' q => ?_) fun _ _ z => z)
    obtain ⟨z, H', I', rz, r, rfl, q⟩ := q
    obtain rfl : v' = .bool r := rz
    exact ⟨r, rfl, .bl (!r), H', I', rfl, q⟩
end
end Cr
/-! data whose text is short: by bulk and depth -/
namespace Cr
open PySem PySem.Spec PyProof.Rows L2 Evl
/-- leaves of at most 80 signs, so much bulk, so deep -/
structure Sz (b m : Nat) (d : PyData) : Prop where
  sh : d.showable = true
  lf : d.leavesShort 80 = true
  bk : d.bulk ≤ b
  dp : d.depth ≤ m
structure SzA (b m : Nat) (ds : List PyData) : Prop where
  sh : PyData.showableAll ds = true
  lf : PyData.leavesShortAll 80 ds = true
  bk : PyData.bulkAll ds ≤ b
  dp : PyData.depthAll ds ≤ m
structure SzK (b m : Nat) (es : List (PyData × PyData)) : Prop where
  sh : PyData.showableKv es = true
  lf : PyData.leavesShortKv 80 es = true
  bk : PyData.bulkKv es ≤ b
  dp : PyData.depthKv es ≤ m
theorem Sz.fits {b m : Nat} {d : PyData} (h : Sz b m d) (hb : b ≤ 100000) (hm : m ≤ 50) : Fits d := by
  refine ⟨h.sh, Nat.le_trans h.dp hm, ?_⟩
  have z := PyData.shown_le_bulk 80 (by decide) d h.lf
  have y := h.bk
  rw [sizeLine_eq]
  omega
theorem Sz.mono {b b' m m' : Nat} {d : PyData} (h : Sz b m d) (hb : b ≤ b') (hm : m ≤ m') : Sz b' m' d := ⟨h.sh, h.lf, Nat.le_trans h.bk hb, Nat.le_trans h.dp hm⟩
theorem sz_none {b m : Nat} : Sz b m .none := ⟨rfl, rfl, Nat.zero_le _, Nat.zero_le _⟩
theorem sz_bool {b m : Nat} {x : Bool} : Sz b m (.bool x) := ⟨rfl, rfl, Nat.zero_le _, Nat.zero_le _⟩
theorem sz_int {b m : Nat} {i : Int} (h : i.natAbs ≤ 10 ^ 70) : Sz b m (.int i) := by
  refine ⟨?_, ?_, Nat.zero_le _, Nat.zero_le _⟩
  · rw [PyData.showable]
    refine decide_eq_true ?_
    by_cases hz : i.natAbs = 0
    · rw [hz]; decide
    · have e : (10 : Nat) ^ 70 < 2 ^ 300 := by decide
      have := (Nat.log2_lt (k := 300) hz).mpr (by omega)
      omega
  · rw [PyData.leavesShort]
    refine decide_eq_true ?_
    have e := int_text_length_le10 (k := 71) (a := i) (by decide) (Nat.lt_of_le_of_lt h (by decide))
    show (Str.ofString (toString i)).length ≤ 80
    rw [PySem.ofString_length]
    omega
theorem sz_str {b m : Nat} {x : Str} (hb : x.length ≤ b) (hx : ∀ c ∈ x.cps.toList, c < 1000) : Sz b m (.str x) := by
  refine ⟨rfl, ?_, ?_, Nat.zero_le _⟩
  · rw [PyData.leavesShort]
    exact List.all_eq_true.mpr fun c hc => decide_eq_true (Nat.lt_trans (hx c hc) (by decide))
  · rw [PyData.bulk]
    exact hb
theorem sza_nil {b m : Nat} : SzA b m [] := ⟨rfl, rfl, Nat.zero_le _, Nat.zero_le _⟩
theorem sza_cons {b b' m : Nat} {d : PyData} {ds : List PyData} (h : Sz b m d) (r : SzA b' m ds) : SzA (b + 1 + b') m (d :: ds) := by
  refine ⟨by rw [PyData.showableAll, h.sh, r.sh]; rfl, by rw [PyData.leavesShortAll, h.lf, r.lf]; rfl, ?_, ?_⟩
  · have h1 := h.bk
    have h2 := r.bk
    rw [PyData.bulkAll]
    omega
  · rw [PyData.depthAll]
    exact Nat.max_le.mpr ⟨h.dp, r.dp⟩
theorem szk_nil {b m : Nat} : SzK b m [] := ⟨rfl, rfl, Nat.zero_le _, Nat.zero_le _⟩
theorem szk_cons {a b b' m : Nat} {k d : PyData} {es : List (PyData × PyData)} (hk : Sz a m k) (h : Sz b m d) (r : SzK b' m es) : SzK (a + b + 2 + b') m ((k, d) :: es) := by
  refine ⟨by rw [PyData.showableKv, hk.sh, h.sh, r.sh]; rfl, by rw [PyData.leavesShortKv, hk.lf, h.lf, r.lf]; rfl, ?_, ?_⟩
  · have h0 := hk.bk
    have h1 := h.bk
    have h2 := r.bk
    rw [PyData.bulkKv]
    omega
  · rw [PyData.depthKv]
    exact Nat.max_le.mpr ⟨Nat.max_le.mpr ⟨hk.dp, h.dp⟩, r.dp⟩
theorem sz_list {b m : Nat} {ds : List PyData} (h : SzA b m ds) : Sz b (m + 1) (.list ds) := ⟨by rw [PyData.showable]; exact h.sh, by rw [PyData.leavesShort]; exact h.lf, by rw [PyData.bulk]; exact h.bk, by rw [PyData.depth]; exact Nat.succ_le_succ h.dp⟩
theorem sz_tuple {b m : Nat} {ds : List PyData} (h : SzA b m ds) : Sz b (m + 1) (.tuple ds) := ⟨by rw [PyData.showable]; exact h.sh, by rw [PyData.leavesShort]; exact h.lf, by rw [PyData.bulk]; exact h.bk, by rw [PyData.depth]; exact Nat.succ_le_succ h.dp⟩
theorem sz_dict {b m : Nat} {es : List (PyData × PyData)} (h : SzK b m es) : Sz b (m + 1) (.dict es) := ⟨by rw [PyData.showable]; exact h.sh, by rw [PyData.leavesShort]; exact h.lf, by rw [PyData.bulk]; exact h.bk, by rw [PyData.depth]; exact Nat.succ_le_succ h.dp⟩
theorem sza_all {b m : Nat} : ∀ {ds : List PyData}, (∀ d ∈ ds, Sz b m d) → SzA ((b + 1) * ds.length) m ds
  | [], _ => ⟨rfl, rfl, Nat.zero_le _, Nat.zero_le _⟩
  | d :: r, h => by
    have z := sza_cons (h d List.mem_cons_self) (sza_all fun x hx => h x (List.mem_cons_of_mem _ hx))
    refine ⟨z.sh, z.lf, ?_, z.dp⟩
    have y := z.bk
    rw [List.length_cons, Nat.mul_add, Nat.mul_one]
    omega
end Cr
/-! except with two classes; a caught error handed to a def -/
namespace Cr
open PySem PySem.Spec PyProof.Rows L2 Evl
theorem flying_kept {B h h' : Heap} {l : List Env} {e : Addr} {Z : Obj → Prop} (f : HandSPX.FlyingZ B l e Z h) (k : ∀ b o, h.get? b = some o → h'.get? b = some o) : HandSPX.FlyingZ B l e Z h' := by
  obtain ⟨f1, f2, f3, oe, vs, T, oT, ts, he, hz, hd, h1, hnT, hTe, hT, hdT, h3⟩ := f
  exact ⟨fun b o z => k b o (f1 b o z), f2, f3.of_keeps fun b o hb hnf => ⟨o, k b o hb, rfl⟩, oe, vs, T, oT, ts, k _ _ he, hz, hd, h1, hnT, hTe, k _ _ hT, hdT, h3⟩
theorem upto_kept {h h' : Heap} (k : ∀ b o, h.get? b = some o → h'.get? b = some o) : h.UpToSlots h' := fun b o hb _ => ⟨o.slots, k b o hb⟩
/-- what the clause 'except (x1, x2) as n' wishes of an exception of the body -/
def wAs2 (K : PySem.W.Frag) (c1 c2 : Value) (i : Nat) (ts : Addr → Value → Option Addr → TS) (Wout : WX) (D : Ends) : WX := fun cls d σ H =>
  ∃ b, PySem.W.exmAny K cls [c1, c2] = some b ∧ (b = true → ∀ a, H a = none → ts a cls d { nx := fun σ' H' => D.nx (σ'.set i none) H', rt := D.rt, bk := fun σ' H' => D.bk (σ'.set i none) H', ct := fun σ' H' => D.ct (σ'.set i none) H' } (σ.set i (some (.ref a))) H) ∧
    (b = false → Wout cls d σ H)
section
variable {X : Cx} {x1 x2 n : Str} {c1 c2 : Value} {i : Nat} {body suite : List Stmt} {b₀ : Stmt} {np1 np2 tpos pos pos' : Pos} {kk : Nat} {tb : WX → TS} {ts : Addr → Value → Option Addr → TS} {Wout : WX}
theorem ps_try_as2 (hs : X.stack = X.env :: X.outer) (hf : X.env.frame = some X.env.locals) (hN : X.N.Nodup) (hi : X.N[i]? = some n) (hln : X.env.kindOf n = some .local) (hc1 : Names X x1 c1) (hc2 : Names X x2 c2) (tk : Takes X Wout)
    (hb : ∀ (W : WX) (pn : List (Addr × Obj)) (xe : Value → Shared → Prop), Takes (X.tr pn xe) W → PassesOwn (model X.prog X.w) X.A X.env xe → PSs (X.tr pn xe) body (tb W))
    (hsu : ∀ (a : Addr) (oe : Obj) (cls : Value) (d : Option Addr) (pn : List (Addr × Obj)), Zc cls d oe → (∃ vs, oe.data = .fields vs) → PSs (X.suite a ((a, oe) :: pn)) (b₀ :: suite) (ts a cls d)) :
    PS X (.Try body [.ExceptHandler (some (.Tuple [.Name x1 np1, .Name x2 np2] kk tpos)) (some n) (b₀ :: suite) pos'] [] [] pos) (fun D σ H => tb (wAs2 X.K c1 c2 i ts Wout D) D σ H) := by
  refine ⟨fun pins s σ H D I h => ?_⟩
  have ok := I.ok
  have hfr : X.A.frames = some (X.env :: X.outer) := by rw [ok.frames, hs]
  have hloc : Loc X.env.scope n := .inl hln
  refine wpAny_Try_except ?_
  refine wpAny_mono ((hb (wAs2 X.K c1 c2 i ts Wout D) (X.pn ++ pins) (fun e s₁ => wpAny (model X.prog X.w) X.A (noteFrame e X.env) (fun _ s₂ => wpAny (model X.prog X.w) X.A (setFlight e none) (fun _ s₃ =>
    wpAny (model X.prog X.w) X.A (handleBy e X.env [.ExceptHandler (some (.Tuple [.Name x1 np1, .Name x2 np2] kk tpos)) (some n) (b₀ :: suite) pos']) (SP X pins D) X.xe s₃) X.xe s₂) X.xe s₁) (fun u s' xx => ?_) PassesOwn.looking).run [] s σ H D (I.toTry _) h) (fun f s1 hsp => ?_) (fun e s1 he => he)
  · obtain ⟨a, B, sI, pins', σ', H', cls, d, rfl, J', nb, up, sky, na, os, ag, b, hb1, hyes, hno⟩ := xx
    have J : Inv X pins σ' H' sI := J'.ofTry ok
    have sky' : Sky B (X.env :: X.outer) a (Zc cls d) X.env.locals s'.heap := by rw [← hs]; exact sky
    show wpAny (model X.prog X.w) X.A (noteFrame (.ref a) X.env) _ _ _
    refine Sky.land Zc.steady hfr hf sky' fun h0 fl0 up0 => ?_
    have J0 : Inv X pins σ' H' { s' with heap := h0 } := J.landed nb fl0.1 (up.trans up0) os ag
    obtain ⟨oe0, vs0, he0, hz0, hd0⟩ := fl0.there
    have notFr : ∀ {h : Heap} {o : Obj} {vs : Array Value}, h.FunFrames B (X.env :: X.outer) → h.get? a = some o → o.data = .fields vs → a ∉ frs (X.env :: X.outer) := fun {h o vs} ff e dd hm => by
      obtain ⟨_, o', e', hnf⟩ := ff.mem hm
      rw [e] at e'; cases e'
      exact hnf _ dd
    have nfr := notFr fl0.2.2.1 he0 hd0
    have nL : a ≠ X.env.locals := fun z => nfr (List.mem_filterMap.mpr ⟨X.env, List.mem_cons_self, by rw [hf, z]⟩)
    have nF : a ∉ X.fs := fun hm => by
      obtain ⟨e, he, q⟩ := List.mem_filterMap.mp hm
      exact nfr (List.mem_filterMap.mpr ⟨e, List.mem_cons_of_mem _ he, q⟩)
    have S3 := J0.suite he0 hd0 na nL nF
    refine wpAny_handleBy_cons (codeAny_handlers_test ?_) (by intro q; cases q)
    have test : ∀ {x : Str} {c : Value} {np : Pos} {Q : Value → Shared → Prop} {E : Value → Shared → Prop}, Names X x c → Q c { s' with heap := h0 } → wpAny (model X.prog X.w) (X.A.mark (some (.ref a))) (eval (.Name x np) X.env) Q E { s' with heap := h0 } := fun {x c np Q E} hc q => by
      obtain ⟨hg, hdbg, hm | ⟨hm, hv, hnn⟩⟩ := hc
      · exact ld_glob (X := X.suite a ((a, oe0) :: (X.pn ++ pins))) S3 hg hm q hdbg
      · exact ld_blt (X := X.suite a ((a, oe0) :: (X.pn ++ pins))) S3 hg hm hv q hnn hdbg
    refine wpAny_Tuple (wpAny_items_cons (test hc1 (wpAny_items_cons (test hc2 (wpAny_items_nil ⟨by size_fits, ?_⟩)))))
    have kp : ∀ q o, h0.get? q = some o → (h0.push { cls := .type "tuple", data := .seq [c1, c2].toArray }).get? q = some o := fun _ _ z => Heap.get?_push_of_some _ z
    have hT : (h0.push { cls := .type "tuple", data := .seq [c1, c2].toArray }).get? h0.objs.size = some { cls := .type "tuple", data := .seq [c1, c2].toArray } := Heap.get?_push_size h0 rfl
    obtain ⟨h3, eh3⟩ : ∃ h3 : Heap, h3 = h0.push { cls := .type "tuple", data := .seq [c1, c2].toArray } := ⟨_, rfl⟩
    show wpAny _ _ _ _ _ { s' with heap := h0.push { cls := .type "tuple", data := .seq [c1, c2].toArray } }
    rw [← eh3] at kp hT ⊢
    have fl3 := flying_kept fl0 kp
    have up3 := up0.trans (upto_kept kp)
    have J3 : Inv X pins σ' H' { s' with heap := h3 } := J.landed nb fl3.1 (up.trans up3) os ag
    have he3 := kp _ _ he0
    have LT : PySem.W.Looks (model X.prog X.w) h3 (typeOf (.ref a)) cls := fun A Q E s k q => wpAny_typeOf_ref (k _ _ he3) (by rw [hz0.1]; exact q)
    have LM := PySem.W.exm_tup2 (M := model X.prog X.w) (J3.kIn) LT hT hb1
    refine LM.here ?_
    cases b with
    | true =>
      refine codeAny_handlers_suite_as ?_
      refine HandSPX.lands_againZ fl3 fun h4 fl4 up4 => ?_
      have J4 : Inv X pins σ' H' { s' with heap := h4 } := J.landed nb fl4.1 ((up.trans up3).trans up4) os ag
      obtain ⟨oe4, vs4, he4, hz4, hd4⟩ := fl4.there
      have S4 := J4.suite he4 hd4 na nL nF
      refine store_ok (X := X.suite a ((a, oe4) :: (X.pn ++ pins))) (v := .ref a) S4 hN hi hloc rfl (fun s5 S5 => ?_) (.inr hln)
      refine wpAny_mono ((hsu a oe4 cls d (X.pn ++ pins) hz4 ⟨_, hd4⟩).run [] s5 _ H' _ S5 (hyes rfl a na)) (fun f s6 hsp => ?_) (fun _ _ z => False.elim z)
      have end_ : ∀ {σ6 : L2.St} {H6 : Hp} {Q : Shared → Prop}, Inv (X.suite a ((a, oe4) :: (X.pn ++ pins))) [] σ6 H6 s6 → (∀ s7, Inv X pins (σ6.set i none) H6 s7 → Q s7) →
          wpAny (model X.prog X.w) X.A (do bindName X.env n .none; unbindBehindTheSuite X.env n pos') (fun _ s7 => Q s7) X.xe s6 := fun {σ6 H6 Q} S6 hq => gone_ok (S6.unsuite ok) hN hi hln hq
      cases f with
      | next =>
        obtain ⟨σ6, H6, S6, q6⟩ := hsp
        exact end_ S6 fun s7 J7 => ⟨_, _, J7, q6⟩
      | brk =>
        obtain ⟨σ6, H6, S6, q6⟩ := hsp
        exact end_ S6 fun s7 J7 => ⟨_, _, J7, q6⟩
      | cont =>
        obtain ⟨σ6, H6, S6, q6⟩ := hsp
        exact end_ S6 fun s7 J7 => ⟨_, _, J7, q6⟩
      | ret u =>
        obtain ⟨v6, σ6, H6, S6, r6, q6⟩ := hsp
        exact end_ S6 fun s7 J7 => ⟨_, _, _, J7, r6, q6⟩
    | false =>
      show wpAny _ X.A (handleBy (.ref a) X.env []) _ _ _
      refine wpAny_handleBy_nil ?_
      obtain ⟨k1, k2, k3, oe, vs, T, oT, ts', he, hz, hd, h1, hr⟩ := id fl3
      unfold PySem.passOn
      refine wpAny_bind (wpAny_field he hd h1 ?_)
      rw [if_neg (show ¬ ((Value.ref T == Value.none) = true) from by simp)]
      have fin : wpAny (model X.prog X.w) X.A (setFlight (.ref a) X.env.frame) (fun _ s4 => wpAny (model X.prog X.w) X.A (throw (.ref a) : Sem Flow) (SP X pins D) X.xe s4) X.xe { s' with heap := h3 } := by
        rw [hf]
        refine HandSPX.setFlight_upZ fl3 fun h4 hh4 up4 => wpAny_throw (tk _ _ ?_)
        exact ⟨a, B, sI, pins, σ', H', cls, d, rfl, J, nb, (up.trans up3).trans up4, .inr (.inr (by rw [hs]; exact hh4)), na, os, ag, hno rfl⟩
      first
        | exact wpAny_bind (wpAny_pure (wpAny_bind fin))
        | exact wpAny_bind fin
  · cases f with
    | next =>
      obtain ⟨σ', H', J', q⟩ := hsp
      exact wpAny_execs_nil ⟨σ', H', J'.ofTry ok, q⟩
    | brk =>
      obtain ⟨σ', H', J', q⟩ := hsp
      exact ⟨σ', H', J'.ofTry ok, q⟩
    | cont =>
      obtain ⟨σ', H', J', q⟩ := hsp
      exact ⟨σ', H', J'.ofTry ok, q⟩
    | ret u =>
      obtain ⟨v, σ', H', J', r, q⟩ := hsp
      exact ⟨v, σ', H', J'.ofTry ok, r, q⟩
end

/-! ### a def that is handed the error that is handled -/
/-- what it is asked, by the error's class, its dict, its place -/
abbrev SpE := Value → Option Addr → Addr → List V → Hp → VK → Prop
structure FnE (P : Program) (w : World) (K : PySem.W.Frag) (mg : Str → Option Value) (base : Heap) (k : Nat) (f : Addr) (fd : FuncData) (ps : List Str) (sp : SpE) : Prop where
  len : ∀ cls d a vs H Q, sp cls d a vs H Q → vs.length = ps.length
  run : ∀ (A : Around) (outer : List Env) (s : Shared) (H : Hp) (args : Args) (us : List Value) (vs : List V) (Q : VK) (a : Addr) (oe : Obj) (cls : Value) (d : Option Addr), L2H.RoomH k A → A.handled = some (.ref a) → L2H.PinOk outer H s (a, oe) → Zc cls d oe → (∃ z, oe.data = .fields z) →
    Env0 P w K mg base A outer s H → BindsTo s fd args (ps.zip us) → Vals vs us → sp cls d a vs H Q → codeAny (model P w) A (.call (.ref f) args) (CR CX0 outer P w H s Q E0) s
section
variable {P : Program} {w : World} {K : PySem.W.Frag} {mg : Str → Option Value} {base : Heap}
theorem okE {x qual : Str} {st : Stmt} {f : Addr} {fd : FuncData} {N ps : List Str} {k : Nat} {sp : SpE}
    (F : Fun K x qual st f fd) (S : FnScope N ps (defScope st)) (len : ∀ cls d a vs H Q, sp cls d a vs H Q → vs.length = ps.length)
    (hbody : ∀ (cdv : Value) (A : Around) (outer : List Env) (s : Shared) (H : Hp) (vs : List V) (Q : VK) (a : Addr) (oe : Obj) (cls : Value) (d : Option Addr), Zc cls d oe → (∃ z, oe.data = .fields z) → sp cls d a vs H Q →
      ∃ t, PSs (L2H.cxH CX0 P w K mg base N qual (defScope st) f cdv A outer s H E0 (a, oe)) (defBody st) t ∧
        t { nx := fun _ H' => Q .non H', rt := Q } (L2.start N vs) H) :
    FnE P w K mg base (k + 1) f fd ps sp := by
  obtain ⟨oc, od, kV, doc, pm, an, cdv, ct, osl, rfl, lk, hcd⟩ := F.ex
  refine ⟨len, fun A outer s H args us vs Q a oe cls d hr hot hpin hz hf e0 hb r hsp => ?_⟩
  have hl := len _ _ _ _ _ _ hsp
  have KX : K.In s.heap := e0.mod.kin.keeps fun b o e => (e0.bs b o e).1
  have lim : s.heap.NoLimit := e0.mod.nolimit.keeps fun b o e => (e0.bs b o e).1
  have hkind : ∀ y ∈ ps.zip us, (defScope st).names.lookup y.1 = some .local ∨ ((defScope st).names.lookup y.1 = some .cell ∧ ((cellsFrom (s.heap.objs.size + 1) (defScope st).names []).lookup y.1).isSome = true) := fun ⟨n, v⟩ hy => by
    rcases S.par n (List.of_mem_zip hy).1 with q | q
    · exact .inl q
    · exact .inr ⟨q, PySem.W.cellsFrom_some _ _ _ (.inl q)⟩
  refine codeAny_call_function hr.depth (KX _ _ lk) rfl S.co S.gen rfl (PySem.W.codeRec_of KX hcd) (hb _ _ _ _ ?_)
  refine wpAny_newFunctionEnv_cells S.kind hkind fun env he s1 x => ?_
  subst he
  refine ⟨lim.keeps x.toInCall.keep, codeAny_func ?_⟩
  obtain ⟨t, ht, hq⟩ := hbody cdv A outer s H vs Q a oe cls d hz hf hsp
  have I : Inv (L2H.cxH CX0 P w K mg base N qual (defScope st) f cdv A outer s H E0 (a, oe)) [] (L2.start N vs) H s1 := L2H.inv_startH S hpin e0 hl r x
  refine wpAny_mono (ht.run [] s1 (L2.start N vs) H _ I hq) (fun fl s' hs => ?_) fun e s' hs => hs
  have fin : ∀ {σ' : L2.St} {H' : Hp} {v : V} {u : Value}, Inv (L2H.cxH CX0 P w K mg base N qual (defScope st) f cdv A outer s H E0 (a, oe)) [] σ' H' s' → RelV v u → Q v H' → CE outer P w H s Q u s' :=
    fun {σ' H' v u} J rv q => ⟨v, H', J.os, J.bare, J.base, J.hok, rv, q⟩
  cases fl with
  | ret u =>
    obtain ⟨v, σ', H', J, rv, q⟩ := hs
    exact fin J rv q
  | next =>
    obtain ⟨σ', H', J, q⟩ := hs
    exact fin (v := V.non) (u := Value.none) J rfl q
  | brk =>
    obtain ⟨_, _, _, q⟩ := hs
    exact False.elim q
  | cont =>
    obtain ⟨_, _, _, q⟩ := hs
    exact False.elim q
end
def tCallE (sp : SpE) (cls : Value) (d : Option Addr) (a : Addr) (t : TA) : TE := fun σ H Q => t σ H fun vs H1 => sp cls d a vs H1 Q
section
variable {X : Cx} {k : Nat} {f a : Addr} {oe : Obj} {cls : Value} {d : Option Addr} {fd : FuncData} {ps : List Str} {sp : SpE} {x : Str} {q pos : Pos} {e : Expr} {es : List Expr} {t : TA}
theorem pe_callE (F : FnE X.prog X.w X.K X.mg X.base k f fd ps sp) (hr : L2H.RoomH k X.A) (hot : X.A.handled = some (.ref a)) (hp : (a, oe) ∈ X.pn) (hz : Zc cls d oe) (hf : ∃ z, oe.data = .fields z) (hg : Gl X x) (hm : X.mg x = some (.ref f)) (hk : PySem.W.keepIn X.K (.ref f) = true) (hb : Binds X.K fd ps [])
    (ha : PA X (e :: es) t) (hdb : (x == ("__debug__" : Str)) = false := by decide) (he : starEach (e :: es) X.env = (false, eval e X.env) :: starEach es X.env := by rfl) (hpl : (backTo pos (starEach es X.env)).any (·.1) = false := by rfl) :
    PE X (.Call (.Name x q) (e :: es) [] pos) (tCallE sp cls d a t) := by
  refine ⟨fun pins s σ H Q I h => ?_⟩
  refine wpAny_Call_Name_kw (ld_glob I hg hm ?_ hdb)
  refine PySem.W.callWith_K (h₀ := X.base) I.ok.mod.kin hk (thn (ha.run pos pins s σ H _ I h) fun us s1 ⟨vs, H1, I1, r, q⟩ => ⟨I1.kIn, ?_⟩) he hpl
  have hl : us.length = ps.length := by rw [← r.length]; exact F.len _ _ _ _ _ _ q
  have b := hb s1 us I1.kIn (by rw [List.append_nil]; exact hl)
  rw [List.append_nil] at b
  have P1 := I1.pin (a, oe) (List.mem_append_left _ hp)
  have hpin : L2H.PinOk X.stack H1 s1 (a, oe) := ⟨P1.1, P1.2.1, fun hm => (List.mem_cons.mp (I1.stkSub a hm)).elim P1.2.2.1 P1.2.2.2.1, P1.2.2.2.2⟩
  refine wpAny_call (codeAny_mono (F.run X.A X.stack s1 H1 ⟨us, []⟩ us vs Q a oe cls d hr hot hpin hz hf I1.env0 b r q) fun r s' hq => ?_)
  cases r with
  | error e => exact False.elim hq
  | ok fl =>
    cases fl with
    | ret u => exact I1.after hq
    | next => exact False.elim hq
    | brk => exact False.elim hq
    | cont => exact False.elim hq
/-- isinstance of an error that is pinned -/
def rIsP (K : PySem.W.Frag) (D a : Addr) (d : Option Addr) : List V → Hp → VK → Prop := fun xs H Q => ∃ (c : V) (b : Bool), xs = [.ref a, c] ∧ (∀ dd, d = some dd → ∃ fs, H dd = some (.xd fs)) ∧
  ((∃ u, ClsV c u ∧ PySem.W.kitOne K (.ref D) u = some b) ∨ ∃ (tp : Addr) (cs : List V) (us : List Value), c = .ref tp ∧ H tp = some (.tup cs) ∧ Paired ClsV cs us ∧ PySem.W.kitAny K (.ref D) us = some b) ∧ Q (.bl b) H
theorem call_isP {D : Addr} (C : ExcC X.K D) (hp : (a, oe) ∈ X.pn) (hz : Zc (.ref D) d oe) (hf : ∃ vs, oe.data = .fields vs) : CallR X (.builtin "isinstance") (rIsP X.K D a d) := by
  intro pins s σ H xs us Q I r h
  obtain ⟨c, b, rfl, hdd, k, q⟩ := h
  obtain ⟨u1, u2, rfl, r1, r2⟩ := vals2 r
  obtain rfl : u1 = Value.ref a := r1
  obtain ⟨hget, _⟩ := I.pin (a, oe) (List.mem_append.mpr (.inl hp))
  obtain ⟨vs, hv⟩ := hf
  have hcl : (PySem.W.clsIn X.K D).isSome = true := by
    obtain ⟨cd, hc, _⟩ := PySem.W.any_some C.hd
    rw [hc]; rfl
  obtain ⟨od, J⟩ : ∃ od, PySem.W.InstAt s.heap a oe D od := by
    cases d with
    | none =>
      obtain ⟨oc, od, oda, osl⟩ := oe
      obtain ⟨h1, h2⟩ := hz
      dsimp only at h1 h2 hv
      subst h1 h2 hv
      exact ⟨none, hget, rfl, rfl, trivial⟩
    | some dd =>
      obtain ⟨fs, hd⟩ := hdd dd rfl
      have hx : ObjOk X.prog X.w H s.heap dd (.xd fs) := I.hok dd _ hd
      obtain ⟨mA, hns, hr⟩ := hx
      obtain ⟨od, ho, _⟩ := lookIn_ns hns
      refine ⟨some od, hget, hz.1, by unfold PySem.W.notCls; rw [hv] <;> rfl, ?_⟩
      rw [hz.2]
      exact ho
  have Z : PySem.W.KitX X.K (.ref a) (.ref D) (fun h => PySem.W.InstAt h a oe D od) := PySem.W.kitx_exc hcl C.hg C.hk C.hs C.ha C.hn C.ht C.hm
  rcases k with ⟨u, ku, e⟩ | ⟨tp, cs, us', rfl, hT, ku, e⟩
  · have e2 := ku.eq r2
    subst e2
    exact PySem.W.kia_one Z I.kIn J e (fun z => nomatch z) fun tk => ⟨.bl b, H, I.tok tk, rfl, q⟩
  · cases (show u2 = Value.ref tp from r2)
    obtain ⟨_, its, rv, o, h1, h2, n, h3⟩ := (show ObjOk X.prog X.w H s.heap tp (.tup cs) from I.hok tp _ hT)
    have e3 := ClsV.all ku rv
    subst e3
    obtain ⟨oc, od', dt, sl⟩ := o
    simp only at h2 h3
    subst h2 h3
    exact PySem.W.kia_tup Z I.kIn J h1 e (fun z => nomatch z) fun tk => ⟨.bl b, H, I.tok tk, rfl, q⟩
/-- an attribute of such an error -/
theorem pe_xp {C : Addr} {te : TE} {n : Str} (T : XfC X.K C) (hno : PySem.W.findIn X.K (.ref C) n = some none) (hp : (a, oe) ∈ X.pn)
    (hz : Zc cls d oe) (hf : ∃ vs, oe.data = .fields vs) (he : PE X e te) (hb : attributeBase e n X.env (eval e X.env) = eval e X.env := by rfl) :
    PE X (.Attribute e n pos) (tXf a cls d C n te) := by
  refine ⟨fun pins s σ H Q I h => ?_⟩
  refine attr_of hb (thn (he.run pins s σ H _ I h) fun u s1 hh => ?_)
  obtain ⟨x, H1, I1, rx, ex, ec, dd, fs, v, ed, ea, l, q⟩ := hh
  subst ex
  obtain rfl : u = Value.ref a := rx
  subst ec
  subst ed
  obtain ⟨ha, _⟩ := I1.pin (a, oe) (List.mem_append_left _ hp)
  obtain ⟨vs, hd⟩ := hf
  have hx : ObjOk X.prog X.w H1 s1.heap dd (.xd fs) := I1.hok dd _ ea
  obtain ⟨mA, hns, hr⟩ := hx
  obtain ⟨od, ho, hl⟩ := lookIn_ns hns
  obtain ⟨u, hu, ru⟩ := RelO.some_of (v := v) (o := mA n) (by rw [← l]; exact hr n)
  have J : PySem.W.InstAt s1.heap a oe C (some od) := ⟨ha, hz.1, by unfold PySem.W.notCls; rw [hd] <;> rfl, by rw [hz.2]; exact ho⟩
  exact HandSPX.exc_get I1.kIn J T.ga T.gg T.exC (PySem.W.findObj_own T.hdC hno rfl (by rw [hl, hu])) (handed_of ru) ⟨v, H1, I1.tok _, ru, q⟩
end
end Cr
/-! == and in, of data of any kind -/
namespace Cr
open PySem PySem.Spec PyProof.Rows L2 Evl
theorem units65 {k : Nat} {A : Around} (r : Room k A) : A.units + 65 < cLine := by have := r.un; omega
section
variable {X : Cx}
def rEqDt : R2 := fun x y H Q => ∃ d e, Dt H x d ∧ Dt H y e ∧ SeqAt.shaped d = true ∧ SeqAt.shaped e = true ∧ Q (.bl (PyData.eqv d e)) H
theorem op_eqDt (hu : X.A.units + 64 < cLine) : OpR X (compareOp .Eq) rEqDt := by
  intro pins s σ H x y v u Q I rx ry h
  obtain ⟨d, e, hd, he, sd, se, q⟩ := h
  obtain ⟨as, r1⟩ := (Dt.shown I hd rx).1
  obtain ⟨bs, r2⟩ := (Dt.shown I he ry).1
  exact SeqAt.compareEq_shaped r1 r2 sd se hu ⟨.bl _, H, I, rfl, q⟩
def rNotInDt : R2 := fun x y H Q => ∃ d ds, Dt H x d ∧ Dt H y (.tuple ds) ∧ SeqAt.shaped d = true ∧ SeqAt.shaped (.tuple ds) = true ∧ Q (.bl (!ds.any fun z => PyData.eqv z d)) H
theorem op_notInDt (hu : X.A.units + 65 < cLine) : OpR X (compareOp .NotIn) rNotInDt := by
  intro pins s σ H x y v u Q I rx ry h
  obtain ⟨d, ds, hd, he, sd, se, q⟩ := h
  obtain ⟨as, r1⟩ := (Dt.shown I hd rx).1
  obtain ⟨bs, r2⟩ := (Dt.shown I he ry).1
  exact SeqAt.notIn_tuple_reads r2 r1 (SeqAt.canLay_of_shaped se) (SeqAt.canLay_of_shaped sd) (room_in_shaped sd hu) ⟨.bl _, H, I, rfl, q⟩
theorem ev_eqDt {ta tb : TE} {σ : L2.St} {H : Hp} {x y : V} {d e : PyData} (h1 : Ev ta σ H x) (h2 : Ev tb σ H y) (hd : Dt H x d) (he : Dt H y e) (sd : SeqAt.shaped d = true) (se : SeqAt.shaped e = true) : Ev (tOp rEqDt ta tb) σ H (.bl (PyData.eqv d e)) :=
  ev_op h1 h2 fun H2 e2 Q q => ⟨d, e, Dt.ex e2 hd, Dt.ex e2 he, sd, se, q H2 (Ex.refl H2)⟩
end
end Cr
/-! == and in, of data of any kind, dicts among them -/
namespace Cr
open PySem PySem.Spec PyProof.Rows L2 Evl
section
variable {prog : Program} {w : World} {A : Around} {E : Value → Shared → Prop} {s : Shared} {l : Addr}
theorem dct_str {b : Str} {u : Tok} {Q' : Value → Shared → Prop} (hT : s.TypeIs (.ref l) "dict") (hq : Q' .notImplemented s) : wpAny (model prog w) A (call (.builtin "dict.__eq__") [.ref l, .str b u]) Q' E s := by
  refine wpAny_call_entry F.slot_dict_eq hT F.entry_dict_eq ?_ (F.args_dict_eq_2 _ _)
  show wpAny _ _ (Builtin.Dict.dictSlotArgs "__eq__" ⟨[.ref l, .str b u], []⟩ >>= _) _ _ s
  have f1 := F.sub_str_dict
  refine wpAny_bind ?_
  unfold Builtin.Dict.dictSlotArgs
  refine wpAny_bind (wpAny_notOrdered_dict hT ?_)
  wp_walk
  exact ⟨_, rfl, hq⟩
theorem dct_none {Q' : Value → Shared → Prop} (hT : s.TypeIs (.ref l) "dict") (hq : Q' .notImplemented s) : wpAny (model prog w) A (call (.builtin "dict.__eq__") [.ref l, .none]) Q' E s := by
  refine wpAny_call_entry F.slot_dict_eq hT F.entry_dict_eq ?_ (F.args_dict_eq_2 _ _)
  show wpAny _ _ (Builtin.Dict.dictSlotArgs "__eq__" ⟨[.ref l, .none], []⟩ >>= _) _ _ s
  have f1 := F.sub_NoneType_dict
  refine wpAny_bind ?_
  unfold Builtin.Dict.dictSlotArgs
  refine wpAny_bind (wpAny_notOrdered_dict hT ?_)
  wp_walk
  exact ⟨_, rfl, hq⟩
theorem str_dct {b : Str} {u : Tok} {Q' : Value → Shared → Prop} {od : Option Addr} {es : Array DictEntry} {n : Nat} {sl : Array (Option Value)} (ho : s.heap.get? l = some ⟨.type "dict", od, .dict es n, sl⟩) (hq : Q' .notImplemented s) : wpAny (model prog w) A (call (.builtin "str.__eq__") [.str b u, .ref l]) Q' E s := by
  refine wpAny_call_entry F.slot_str_eq (typeIs_str s b u) F.entry_str_eq ?_ (F.args_str_eq_2 _ _)
  show wpAny _ _ (Builtin.Str.strCompare "__eq__" _ ⟨[.str b u, .ref l], []⟩) _ _ s
  unfold Builtin.Str.strCompare Builtin.Str.strSlot
  repeat (first | with_reducible refine wpAny_load ho ?_ | wp_step)
  exact ⟨_, rfl, hq⟩
theorem none_dct {Q' : Value → Shared → Prop} (hq : Q' .notImplemented s) : wpAny (model prog w) A (call (.builtin "NoneType.__eq__") [.none, .ref l]) Q' E s := call_gives F.slot_NoneType_eq_refl rfl F.entry_NoneType_eq (F.args_NoneType_eq_2 _ _) (SeqAt.NoneType___eq___none_ref_0 l) hq
variable {od : Option Addr} {es : Array DictEntry} {n : Nat} {sl : Array (Option Value)}
theorem rc_dct_str {b : Str} {u : Tok} (ho : s.heap.get? l = some ⟨.type "dict", od, .dict es n, sl⟩) (hu : A.units < cLine) : SeqAt.RcAt A s (.ref l) (.str b u) false := fun prog w E Q h =>
  SeqAt.rc_eq_decline_or (k := false) ⟨_, ho, rfl⟩ (typeIs_str s b u) (by decide) F.sub_str_dict F.slot_dict_eq F.slot_str_eq_refl
    (fun _ hq => dct_str ⟨_, ho, rfl⟩ hq) (fun _ hq => str_dct ho hq) (fun _ hq => wpAny_of_eq (rfl : isSame (.ref l) (.str b u) = pure false) hq) (.inr hu) h
theorem rc_str_dct {b : Str} {u : Tok} (ho : s.heap.get? l = some ⟨.type "dict", od, .dict es n, sl⟩) (hu : A.units < cLine) : SeqAt.RcAt A s (.str b u) (.ref l) false := fun prog w E Q h =>
  SeqAt.rc_eq_decline_or (k := false) (typeIs_str s b u) ⟨_, ho, rfl⟩ (by decide) F.sub_dict_str F.slot_str_eq F.slot_dict_eq_refl
    (fun _ hq => str_dct ho hq) (fun _ hq => dct_str ⟨_, ho, rfl⟩ hq) (fun _ hq => wpAny_of_eq (rfl : isSame (.str b u) (.ref l) = pure false) hq) (.inr hu) h
theorem rc_none_dct (ho : s.heap.get? l = some ⟨.type "dict", od, .dict es n, sl⟩) (hu : A.units < cLine) : SeqAt.RcAt A s .none (.ref l) false := fun prog w E Q h =>
  SeqAt.rc_eq_decline_or (k := false) rfl ⟨_, ho, rfl⟩ (by decide) F.sub_dict_NoneType F.slot_NoneType_eq F.slot_dict_eq_refl
    (fun _ hq => none_dct hq) (fun _ hq => dct_none ⟨_, ho, rfl⟩ hq) (fun _ hq => wpAny_of_eq (rfl : isSame .none (.ref l) = pure false) hq) (.inr hu) h
theorem eq_str_dct {b : Str} {u : Tok} (ho : s.heap.get? l = some ⟨.type "dict", od, .dict es n, sl⟩) (hu : A.units < cLine) : SeqAt.EqAt A s (.str b u) (.ref l) false := fun prog w E Q h => by
  unfold eqBool
  refine wpAny_holding ?_
  refine wpAny_ite_split (fun hab => absurd (eq_of_beq hab) nofun) (fun _ => ?_)
  exact wpAny_bind (rc_str_dct ho hu prog w E _ (wpAny_truthy_bool h))
theorem eq_none_dct (ho : s.heap.get? l = some ⟨.type "dict", od, .dict es n, sl⟩) (hu : A.units < cLine) : SeqAt.EqAt A s .none (.ref l) false := fun prog w E Q h => by
  unfold eqBool
  refine wpAny_holding ?_
  refine wpAny_ite_split (fun hab => absurd (eq_of_beq hab) nofun) (fun _ => ?_)
  exact wpAny_bind (rc_none_dct ho hu prog w E _ (wpAny_truthy_bool h))
end
section
variable {X : Cx}
theorem dict_at {pins : List (Addr × Obj)} {σ : L2.St} {H : Hp} {s : Shared} {a : Addr} {kvs : List (Key × V)} (I : Inv X pins σ H s) (h : H a = some (.dK kvs)) : ∃ od es n sl, s.heap.get? a = some ⟨.type "dict", od, .dict es n, sl⟩ := by
  obtain ⟨_, _, _, _, ⟨oc, od, dt, sl⟩, es, ep, e, c, g, _⟩ := (show ObjOk X.prog X.w H s.heap a (.dK kvs) from I.hok a _ h)
  have c1 := c.1
  simp only at c1 g
  subst c1 g
  exact ⟨od, es, ep, sl, e⟩
/-- == with a text on the right -/
def rEqDs : R2 := fun x y H Q => ∃ (d : PyData) (z : Str), Dt H x d ∧ y = .str z ∧ ((SeqAt.shaped d = true ∧ SeqAt.shaped (.str z) = true ∧ Q (.bl (PyData.eqv d (.str z))) H) ∨ ∃ es, d = .dict es ∧ Q (.bl false) H)
theorem op_eqDs (hu : X.A.units + 64 < cLine) : OpR X (compareOp .Eq) rEqDs := by
  intro pins s σ H x y v u Q I rx ry h
  obtain ⟨d, z, hd, rfl, h⟩ := h
  obtain ⟨t, rfl⟩ := ry
  rcases h with ⟨sd, sz, q⟩ | ⟨es, rfl, q⟩
  · obtain ⟨as, r1⟩ := (Dt.shown I hd rx).1
    exact SeqAt.compareEq_shaped r1 (Reads.str z t) sd sz hu ⟨.bl _, H, I, rfl, q⟩
  · cases hd with
    | dct ha _ =>
      cases rx
      obtain ⟨od, es', n, sl, ho⟩ := dict_at I ha
      exact rc_dct_str ho (by omega) X.prog X.w _ _ ⟨.bl false, H, I, rfl, q⟩
/-- x not in a tuple of texts and None -/
def okIn : List V → Bool
  | [] => true
  | .str _ :: r => okIn r
  | .non :: r => okIn r
  | _ :: _ => false
theorem okIn_eq {s : Shared} {A : Around} {l : Addr} {od : Option Addr} {es : Array DictEntry} {n : Nat} {sl : Array (Option Value)} (ho : s.heap.get? l = some ⟨.type "dict", od, .dict es n, sl⟩) (hu : A.units < cLine) :
    ∀ {xs : List V} {us : List Value}, okIn xs = true → Vals xs us → ∀ y ∈ us, SeqAt.EqAt A s y (.ref l) false
  | _, _, _, .nil, _, hy => nomatch hy
  | v :: vs, _, hk, .cons r rr, y, hy => by
    cases v with
    | str z =>
      rcases List.mem_cons.mp hy with rfl | hy
      · obtain ⟨t, rfl⟩ := r
        exact eq_str_dct ho hu
      · exact okIn_eq ho hu (xs := vs) hk rr y hy
    | non =>
      rcases List.mem_cons.mp hy with rfl | hy
      · cases r
        exact eq_none_dct ho hu
      · exact okIn_eq ho hu (xs := vs) hk rr y hy
    | _ => exact nomatch hk
def rNotInDs : R2 := fun x y H Q => ∃ (d : PyData) (ds : List PyData), Dt H x d ∧ ((Dt H y (.tuple ds) ∧ SeqAt.shaped d = true ∧ SeqAt.shaped (.tuple ds) = true ∧ Q (.bl (!ds.any fun z => PyData.eqv z d)) H) ∨ ∃ es p xs, d = .dict es ∧ y = .ref p ∧ H p = some (.tup xs) ∧ okIn xs = true ∧ Q (.bl true) H)
theorem op_notInDs (hu : X.A.units + 65 < cLine) : OpR X (compareOp .NotIn) rNotInDs := by
  intro pins s σ H x y v u Q I rx ry h
  obtain ⟨d, ds, hd, h⟩ := h
  rcases h with ⟨he, sd, se, q⟩ | ⟨es, p, xs, rfl, rfl, hp, hk, q⟩
  · exact op_notInDt hu pins s σ H x y v u Q I rx ry ⟨d, ds, hd, he, sd, se, q⟩
  · cases hd with
    | dct ha _ =>
      cases rx
      cases ry
      obtain ⟨od, es', n, sl, ho⟩ := dict_at I ha
      obtain ⟨_, its, rv, o, h1, h2, m, h3⟩ := (show ObjOk X.prog X.w H s.heap p (.tup xs) from I.hok p _ hp)
      refine SeqAt.notIn_tupleAt (fun _ => false) ⟨o, h1, h2, m, h3⟩ (fun y hy => okIn_eq ho (by show X.A.units + 1 < cLine; omega) hk rv y (by simpa using hy)) ?_
      refine ⟨.bl true, H, I, ?_, q⟩
      show Value.bool _ = Value.bool true
      congr 1
      simp
end
end Cr
/-! C(..) in a try: what __init__ raises wished for at the caller's slots -/
namespace Cr
open PySem PySem.Spec PyProof.Rows L2 Evl
def tMakeS (C : Addr) (sp : Sp) (E : L2.St → XK) (t : TA) : TE := fun σ H Q => t σ H fun vs H1 => ∀ x dx, H1 x = none → H1 dx = none → dx ≠ x →
  sp (.ref x :: vs) (upd (upd H1 dx (.own x)) x (.ins C dx [])) (fun v H2 => v = .non ∧ Q (.ref x) H2) (E σ)
section
variable {X : Cx} {CX : CXT} {k : Nat} {f C : Addr} {fd : FuncData} {ps : List Str} {sp : Sp} {E : L2.St → XK} {x : Str} {p pos : Pos} {e : Expr} {es : List Expr} {t : TA}
theorem pe_makeS (M : Mk X.K C f) (F : FnOk X.prog X.w X.K X.mg X.base CX k f fd ps sp) (hr : Room (k + 1) X.A) (hg : Gl X x) (hm : X.mg x = some (.ref C)) (hb : Binds X.K fd ps []) (hx : ∀ σ, PassesAt CX X σ (E σ))
    (ha : PA X (e :: es) t) (hdb : (x == ("__debug__" : Str)) = false := by decide) (he : starEach (e :: es) X.env = (false, eval e X.env) :: starEach es X.env := by rfl) (hpl : (backTo pos (starEach es X.env)).any (·.1) = false := by rfl) :
    PE X (.Call (.Name x p) (e :: es) [] pos) (tMakeS C sp E t) := by
  refine ⟨fun pins s σ H Q I h => ?_⟩
  refine wpAny_Call_Name_kw (ld_glob I hg hm ?_ hdb)
  refine PySem.W.callWith_K (h₀ := X.base) I.ok.mod.kin M.kp (thn (ha.run pos pins s σ H _ I h) fun us s1 ⟨vs, H1, I1, r, q⟩ => ⟨I1.kIn, ?_⟩) he hpl
  have hq := q (s1.heap.objs.size + 1) s1.heap.objs.size (I1.hok.fresh (Nat.le_succ _)) (I1.hok.fresh (Nat.le_refl _)) (Nat.ne_of_lt (Nat.lt_succ_self _))
  have I2 := Inv.made (C := C) I1
  have r2 : Vals (V.ref (s1.heap.objs.size + 1) :: vs) (Value.ref (s1.heap.objs.size + 1) :: us) := .cons rfl r
  have hl : ((Value.ref (s1.heap.objs.size + 1) :: us) ++ []).length = ps.length := by
    have e := r2.length
    rw [F.len _ _ _ _ hq] at e
    rw [List.append_nil]
    exact e.symm
  have b := hb { s1 with heap := _ } (Value.ref (s1.heap.objs.size + 1) :: us) I2.kIn hl
  rw [List.append_nil] at b
  refine wpAny_call (make_map (f := f) I1.kIn M.makes M.init (beq_iff_eq.mp M.fn) (codeAny_mono (F.run _ X.stack _ _ ⟨Value.ref (s1.heap.objs.size + 1) :: us, []⟩ (Value.ref (s1.heap.objs.size + 1) :: us) _ _ (E σ) (hr.make C us [])
    (I2.env0.make C us []) b r2 hq) fun r s' hq' => ?_))
  cases r with
  | error e => exact hx σ pins _ _ e s' I2 hq'
  | ok fl =>
    cases fl with
    | ret u =>
      obtain ⟨v, H', I3, rv, ev, q3⟩ := I2.after hq'
      subst ev
      exact ⟨rv, ⟨V.ref (s1.heap.objs.size + 1), H', I3, rfl, q3⟩⟩
    | next => exact False.elim hq'
    | brk => exact False.elim hq'
    | cont => exact False.elim hq'
end
end Cr
/-! expressions by the data that they give -/
namespace Cr
open PySem PySem.Spec PyProof.Rows L2 Evl
def EvD (te : TE) (σ : L2.St) (H : Hp) (d : PyData) : Prop := ∀ H1, Ex H H1 → ∀ Q : VK, (∀ v H2, Ex H1 H2 → Dt H2 v d → Q v H2) → te σ H1 Q
def EvDA (ta : TA) (σ : L2.St) (H : Hp) (ds : List PyData) : Prop := ∀ H1, Ex H H1 → ∀ Q : List V → Hp → Prop, (∀ vs H2, Ex H1 H2 → DtAll H2 vs ds → Q vs H2) → ta σ H1 Q
theorem dtAll_mem' {H : Hp} : ∀ {vs : List V} {ds : List PyData} {v : V}, DtAll H vs ds → v ∈ vs → ∃ d ∈ ds, Dt H v d
  | _, _, _, .nil, h => nomatch h
  | _, _, _, .cons a b, h => by
    rcases List.mem_cons.mp h with rfl | h
    · exact ⟨_, List.mem_cons_self, a⟩
    · obtain ⟨d, h1, h2⟩ := dtAll_mem' b h
      exact ⟨d, List.mem_cons_of_mem _ h1, h2⟩
theorem dtAll_len {H : Hp} : ∀ {vs : List V} {ds : List PyData}, DtAll H vs ds → vs.length = ds.length
  | _, _, .nil => rfl
  | _, _, .cons _ b => by rw [List.length_cons, List.length_cons, dtAll_len b]
def rNeDt : R2 := fun x y H Q => ∃ d e, Dt H x d ∧ Dt H y e ∧ SeqAt.shaped d = true ∧ SeqAt.shaped e = true ∧ Q (.bl (!PyData.eqv d e)) H
theorem op_neDt {X : Cx} (hu : X.A.units + 64 < cLine) : OpR X (compareOp .NotEq) rNeDt := by
  intro pins s σ H x y v u Q I rx ry h
  obtain ⟨d, e, hd, he, sd, se, q⟩ := h
  obtain ⟨as, r1⟩ := (Dt.shown I hd rx).1
  obtain ⟨bs, r2⟩ := (Dt.shown I he ry).1
  exact SeqAt.compareNe_shaped r1 r2 sd se hu ⟨.bl _, H, I, rfl, q⟩
section
variable {te : TE} {ta : TA} {σ : L2.St} {H : Hp} {v : V} {d : PyData} {ds : List PyData}
theorem evd_of (h : Ev te σ H v) (hd : Dt H v d) : EvD te σ H d := fun H1 e Q q => h H1 e _ fun H2 e2 => q v H2 e2 (Dt.ex (e.trans e2) hd)
theorem evd_non : EvD (tC .non) σ H .none := evd_of ev_c .non
theorem evd_str {x : Str} : EvD (tC (.str x)) σ H (.str x) := evd_of ev_c (.str x)
theorem evd_int {i : Int} : EvD (tC (.int i)) σ H (.int i) := evd_of ev_c (.int i)
theorem evd_bl {b : Bool} : EvD (tC (.bl b)) σ H (.bool b) := evd_of ev_c (.bl b)
theorem evd_ex {H' : Hp} (h : EvD te σ H d) (e : Ex H H') : EvD te σ H' d := fun H1 e1 => h H1 (e.trans e1)
theorem evda_ex {H' : Hp} (h : EvDA ta σ H ds) (e : Ex H H') : EvDA ta σ H' ds := fun H1 e1 => h H1 (e.trans e1)
theorem evda_nil : EvDA tNil σ H [] := fun H1 e Q q => q [] H1 (Ex.refl H1) .nil
theorem evda_cons (h1 : EvD te σ H d) (h2 : EvDA ta σ H ds) : EvDA (tCons te ta) σ H (d :: ds) := fun H1 e Q q =>
  h1 H1 e _ fun v H2 e2 hv => h2 H2 (e.trans e2) _ fun vs H3 e3 hvs => q (v :: vs) H3 (e2.trans e3) (.cons (Dt.ex e3 hv) hvs)
theorem evd_lst (h : EvDA ta σ H ds) (hl : ds.length ≤ 1000) : EvD (tLst ta) σ H (.list ds) := fun H1 e Q q =>
  h H1 e _ fun vs H2 e2 hvs => ⟨Nat.le_trans (Nat.le_of_eq (dtAll_len hvs)) (Nat.le_trans hl (by decide)), fun l hl' => q (.ref l) _ (e2.trans (Ex.new hl')) (.lst upd_same (DtAll.ex (Ex.new hl') hvs))⟩
theorem evd_tup (h : EvDA ta σ H ds) (hl : ds.length ≤ 1000) : EvD (tTup ta) σ H (.tuple ds) := fun H1 e Q q =>
  h H1 e _ fun vs H2 e2 hvs => ⟨Nat.le_trans (Nat.le_of_eq (dtAll_len hvs)) (Nat.le_trans hl (by decide)), fun l hl' => q (.ref l) _ (e2.trans (Ex.new hl')) (.tup upd_same (DtAll.ex (Ex.new hl') hvs))⟩
theorem evd_dnew : EvD tDNewK σ H (.dict []) := fun H1 e Q q => fun l hl => q (.ref l) _ (Ex.new hl) (.dct upd_same .nil)
theorem dt_lst {H : Hp} {v : V} (h : Dt H v (.list ds)) : ∃ a xs, v = .ref a ∧ H a = some (.lst xs) ∧ DtAll H xs ds := by
  cases h with
  | lst h1 h2 => exact ⟨_, _, rfl, h1, h2⟩
theorem dtAll_app {H : Hp} : ∀ {xs ys : List V} {ds es : List PyData}, DtAll H xs ds → DtAll H ys es → DtAll H (xs ++ ys) (ds ++ es)
  | _, _, _, _, .nil, h => h
  | _, _, _, _, .cons a b, h => .cons a (dtAll_app b h)
theorem dtAll_rep {H : Hp} {x : V} {d : PyData} (h : Dt H x d) : ∀ n : Nat, DtAll H (List.replicate n x) (List.replicate n d)
  | 0 => .nil
  | n + 1 => .cons h (dtAll_rep h n)
theorem evd_cat {t1 t2 : TE} {es : List PyData} (h1 : EvD t1 σ H (.list ds)) (h2 : EvD t2 σ H (.list es)) (hl : ds.length + es.length ≤ 1000) : EvD (tOp rCat t1 t2) σ H (.list (ds ++ es)) := fun H1 e Q q =>
  h1 H1 e _ fun v H2 e2 hv => h2 H2 (e.trans e2) _ fun u H3 e3 hu => by
    obtain ⟨a, xs, rfl, ha, hx⟩ := dt_lst (Dt.ex e3 hv)
    obtain ⟨b, ys, rfl, hb, hy⟩ := dt_lst hu
    exact ⟨a, b, xs, ys, rfl, rfl, ha, hb, Nat.le_trans (by rw [dtAll_len hx, dtAll_len hy]; exact hl) (by decide), fun p hp => q (.ref p) _ ((e2.trans e3).trans (Ex.new hp)) (.lst upd_same (DtAll.ex (Ex.new hp) (dtAll_app hx hy)))⟩
theorem rep_flat {α : Type} {x : α} : ∀ n : Nat, (List.replicate n [x]).flatten = List.replicate n x
  | 0 => rfl
  | n + 1 => by rw [List.replicate_succ, List.flatten_cons, rep_flat n]; rfl
theorem evd_rep {n : Nat} (h : EvD te σ H (.list [d])) (hn : n ≤ 100) : EvD (tOp rRep te (tC (.int (n : Int)))) σ H (.list (List.replicate n d)) := fun H1 e Q q =>
  h H1 e _ fun v H2 e2 hv => by
    obtain ⟨a, xs, rfl, ha, hx⟩ := dt_lst hv
    cases hx with
    | cons hx hr =>
      cases hr
      refine ⟨a, (n : Int), _, rfl, rfl, ha, by omega, by omega, ?_, fun p hp => q (.ref p) _ (e2.trans (Ex.new hp)) ?_⟩
      · rw [List.length_singleton, Nat.one_mul, show ((n : Int).toNat) = n by omega]
        exact Nat.le_trans hn (by decide)
      · refine .lst upd_same ?_
        rw [show ((n : Int).toNat) = n by omega, rep_flat]
        exact dtAll_rep (Dt.ex (Ex.new hp) hx) n
theorem s_forD {K : PySem.W.Frag} {tl : TE} {tu : TS} {D : Ends} {g : TG} (h : EvD tl σ H (.list ds)) (Pv : L2.St → Prop) (h0 : Pv σ)
    (hs : ∀ H1, Ex H H1 → ∀ v d σ' H', d ∈ ds → Ex H1 H' → Dt H' v d → Pv σ' → g v σ' H' fun σ2 H2 => tu { D with nx := fun σ3 H3 => Pv σ3 ∧ Ex H1 H3, ct := fun σ3 H3 => Pv σ3 ∧ Ex H1 H3, bk := D.nx } σ2 H2)
    (hd : ∀ σ' H', Pv σ' → Ex H H' → D.nx σ' H') : tFor (iList K tl) g tu D σ H :=
  h H (Ex.refl H) _ fun v H1 e hv => by
    obtain ⟨a, xs, rfl, ha, hx⟩ := dt_lst hv
    refine ⟨a, rfl, ⟨xs, sq_of ha⟩, for_list (fun _ σ' H' => Pv σ' ∧ Ex H1 H') ⟨h0, Ex.refl H1⟩ (fun i σ' H' _ hP => sq_of (hP.2 _ _ ha)) (fun i x σ' H' hi hP => ?_) (fun σ' H' hP => hd σ' H' hP.1 (e.trans hP.2))⟩
    obtain ⟨d, hd1, hd2⟩ := dtAll_mem' hx (List.mem_of_getElem? hi)
    exact hs H1 e x d σ' H' hd1 hP.2 (Dt.ex hP.2 hd2) hP.1
end
end Cr
/-! the program's own defs -/
namespace Cr
open PySem PySem.Spec PyProof.Rows L2 Evl
def topS (i : Nat) : Stmt := PySem.Challenge.pw_cycleready_k33_errors_of_frames.main.body.getD i (.Pass ⟨0, 0, 0, 0⟩)
abbrev sIsInteger : Stmt := topS 13
abbrev sIsName : Stmt := topS 14
abbrev sIsVariable : Stmt := topS 16
abbrev sIsItem : Stmt := topS 21
abbrev sIsStep : Stmt := topS 22
abbrev sIsPlain : Stmt := topS 23
theorem scIsInteger : FnScope ["value"] ["value"] (defScope sIsInteger) := ⟨rfl, rfl, rfl, by decide +kernel, rfl, by decide +kernel, by decide +kernel⟩
theorem scIsName : FnScope ["value", "letter"] ["value"] (defScope sIsName) := ⟨rfl, rfl, rfl, by decide +kernel, rfl, by decide +kernel, by decide +kernel⟩
theorem scIsVariable : FnScope ["value"] ["value"] (defScope sIsVariable) := ⟨rfl, rfl, rfl, by decide +kernel, rfl, by decide +kernel, by decide +kernel⟩
theorem scIsItem : FnScope ["value", "kind"] ["value", "kind"] (defScope sIsItem) := ⟨rfl, rfl, rfl, by decide +kernel, rfl, by decide +kernel, by decide +kernel⟩
theorem scIsStep : FnScope ["value", "shape", "item", "kind"] ["value"] (defScope sIsStep) := ⟨rfl, rfl, rfl, by decide +kernel, rfl, by decide +kernel, by decide +kernel⟩
theorem scIsPlain : FnScope ["step"] ["step"] (defScope sIsPlain) := ⟨rfl, rfl, rfl, by decide +kernel, rfl, by decide +kernel, by decide +kernel⟩

/-- the built-ins are the built-ins -/
structure Blt (mg : Str → Option Value) : Prop where
  isi : mg "isinstance" = none
  int : mg "int" = none
  bool : mg "bool" = none
  str : mg "str" = none
  tuple : mg "tuple" = none
  list : mg "list" = none
  len : mg "len" = none
  all : mg "all" = none
  zip : mg "zip" = none
  repr : mg "repr" = none
  range : mg "range" = none
  max : mg "max" = none
  min : mg "min" = none
  abs : mg "abs" = none
  divmod : mg "divmod" = none
  enum : mg "enumerate" = none
  sorted : mg "sorted" = none
  sup : mg "super" = none
  verr : mg "ValueError" = none
  rerr : mg "RuntimeError" = none
  dict : mg "dict" = none
theorem bIsi : bootBuiltins "isinstance" = some (.builtin "isinstance") := by decide +kernel
theorem bLen : bootBuiltins "len" = some (.builtin "len") := by decide +kernel
theorem bAll : bootBuiltins "all" = some (.builtin "all") := by decide +kernel
theorem bRepr : bootBuiltins "repr" = some (.builtin "repr") := by decide +kernel
theorem bInt : bootBuiltins "int" = some (.type "int") := by decide +kernel
theorem bBool : bootBuiltins "bool" = some (.type "bool") := by decide +kernel
theorem bStr : bootBuiltins "str" = some (.type "str") := by decide +kernel
theorem bTuple : bootBuiltins "tuple" = some (.type "tuple") := by decide +kernel
theorem bDict : bootBuiltins "dict" = some (.type "dict") := by decide +kernel
theorem bEnum : bootBuiltins "enumerate" = some (.type "enumerate") := by decide +kernel
theorem bVerr : bootBuiltins "ValueError" = some (.type "ValueError") := by decide +kernel
theorem bRerr : bootBuiltins "RuntimeError" = some (.type "RuntimeError") := by decide +kernel
theorem bList : bootBuiltins "list" = some (.type "list") := by decide +kernel

/-! ### what they say -/
def isInteger (d : PyData) : Bool := isT "int" d && !isT "bool" d
def atLeast (n : Int) : PyData → Bool
  | .int i => decide (n ≤ i)
  | _ => false
def isCount (d : PyData) : Bool := isInteger d && atLeast 0 d
def isNameS (x : Str) : Bool := (decide ((1 : Int) ≤ x.length) && decide ((x.length : Int) ≤ 8)) && x.cps.toList.all isLow
def isName : PyData → Bool
  | .str x => isNameS x
  | _ => false
def vars4 : List Str := ["a", "b", "c", "d"]
def isVar : PyData → Bool
  | .str x => vars4.any fun y => y == x
  | _ => false
theorem isInteger_int (i : Int) : isInteger (.int i) = true := rfl
section
variable {P : Program} {w : World} {K : PySem.W.Frag} {mg : Str → Option Value} {base : Heap}
theorem memI : "int" ∈ ["int", "bool", "str", "list", "tuple", "dict"] := by decide
theorem memB : "bool" ∈ ["int", "bool", "str", "list", "tuple", "dict"] := by decide
theorem memS : "str" ∈ ["int", "bool", "str", "list", "tuple", "dict"] := by decide
theorem memT : "tuple" ∈ ["int", "bool", "str", "list", "tuple", "dict"] := by decide

theorem ok_isInteger {f : Addr} {fd : FuncData} {k : Nat} (F : Fun K "is_integer" "is_integer" sIsInteger f fd) (B : Blt mg) : FnOk P w K mg base CX0 (k + 1) f fd ["value"] (spD isInteger) := by
  refine F.ok scIsInteger spD_len (fun cdv A outer s H vs Q E hr h => ?_)
  obtain ⟨v, d, rfl, hd, _, q⟩ := h
  refine ⟨_, pss_one (ps_ret (pe_and (pe_callB call_isi (by rfl) B.isi bIsi (pa_cons (pv 0) (pa_cons (pe_bltn (v := .ty "int") (by rfl) B.int bInt rfl) pa_nil)))
    (pe_one (pe_not (pe_callB call_isi (by rfl) B.isi bIsi (pa_cons (pv 0) (pa_cons (pe_bltn (v := .ty "bool") (by rfl) B.bool bBool rfl) pa_nil))))))), ?_⟩
  refine s_ret (ev_andV (ev_cb (ea_cons (ev_var rfl) (ea_cons ev_c ea_nil)) (rc_isi hd memI)) fun _ => ev_notV (ev_cb (ea_cons (ev_var rfl) (ea_cons ev_c ea_nil)) (rc_isi hd memB))) q

theorem ok_isName {f : Addr} {fd : FuncData} {k : Nat} (F : Fun K "is_name" "is_name" sIsName f fd) (B : Blt mg) {tL : Tok} (gL : mg "LONGEST_NAME" = some (.int 8 tL)) : FnOk P w K mg base CX0 (k + 1) f fd ["value"] (spD isName) := by
  refine F.ok scIsName spD_len (fun cdv A outer s H vs Q E hr h => ?_)
  obtain ⟨v, d, rfl, hd, hs, q⟩ := h
  refine ⟨_, pss_cons (ps_if (PW.pt (pw_or (pt_not (pt_val (pe_callB call_isi (by rfl) B.isi bIsi (pa_cons (pv 0) (pa_cons (pe_bltn (v := .ty "str") (by rfl) B.str bStr rfl) pa_nil)))))
      (pw_or1 (pt_not (pt_chain op_le op_le pe_int (pe_callB call_len_str (by rfl) B.len bLen (pa_cons (pv 0) pa_nil)) (pe_glob (v := .int 8) (by rfl) gL ⟨_, rfl⟩))))))
      (pss_one (ps_ret pe_bl)) pss_nil)
    (pss_one (ps_ret (pe_callB (cr_all rfl) (by rfl) B.all bAll (pa_cons
      (pe_lc (own := [("letter", 1)]) (g := gName 1) (tt := tYes) rfl scIsName.nd (pi_str (pv 0)) (blkOk_by (own := [("letter", 1)]) (N := ["value", "letter"]) (sc := defScope sIsName) (by decide +kernel))
        (fun _ _ _ _ _ => pg_name (i := 1) scIsName.nd rfl (Or.inl rfl)) (fun _ _ _ _ _ => pts_nil) (fun _ _ _ _ _ => pe_chain op_leS op_leS pe_str (pv 1) pe_str)) pa_nil)))), ?_⟩
  have isS := rc_isi (K := K) hd memS
  cases hd with
  | str x =>
    have hx : x.length ≤ 1000 := by
      rw [sm] at hs
      exact of_decide_eq_true hs
    refine q_when (et_or (et_not (et_B (ev_cb (ea_cons (ev_var rfl) (ea_cons ev_c ea_nil)) isS))) fun _ => et_not (et_test (ev_chain ev_c (ev_cb (ea_cons (ev_var rfl) ea_nil) (rc_lenS hx)) rv_I0 (fun _ => ev_c) fun _ => rv_I0))) (fun hb H1 e1 => ?_) (fun hb H1 e1 => ?_)
    · refine s_ret ev_c fun H2 e2 => ?_
      have z : isName (.str x) = false := by
        have hb' : (!(isT "str" (.str x)) || !(decide ((1 : Int) ≤ x.length) && decide ((x.length : Int) ≤ 8))) = true := hb
        have e : isT "str" (.str x) = true := rfl
        rw [e, Bool.not_true, Bool.false_or] at hb'
        show ((decide ((1 : Int) ≤ x.length) && decide ((x.length : Int) ≤ 8)) && x.cps.toList.all isLow) = false
        rw [Bool.not_eq_true'] at hb'
        rw [hb', Bool.false_and]
      have g := q H2 (e1.trans e2)
      rw [z] at g
      exact g
    · have ch : ∀ c : Nat, (!decide ((⟨#[c]⟩ : Str).cps.toList < (("a" : Str)).cps.toList) && !decide ((("z" : Str)).cps.toList < (⟨#[c]⟩ : Str).cps.toList)) = isLow c := fun c => by
        have ea : (("a" : Str)).cps.toList = [97] := by decide +kernel
        have ez : (("z" : Str)).cps.toList = [122] := by decide +kernel
        have ec : (⟨#[c]⟩ : Str).cps.toList = [c] := rfl
        rw [ea, ez, ec, one_lt, one_lt]
        unfold isLow
        congr 1
        · by_cases hc : 97 ≤ c
          · rw [decide_eq_true hc, decide_eq_false (show ¬ c < 97 by omega)]; rfl
          · rw [decide_eq_false hc, decide_eq_true (show c < 97 by omega)]; rfl
        · by_cases hc : c ≤ 122
          · rw [decide_eq_true hc, decide_eq_false (show ¬ 122 < c by omega)]; rfl
          · rw [decide_eq_false hc, decide_eq_true (show 122 < c by omega)]; rfl
      have lc := el_lcW (wi := iStr (tVar 0)) (g := gName 1) (tt := tYes) (te := tChain rLeS rLeS (tC (.str "a")) (tVar 1) (tC (.str "z"))) (vs := [1]) (σ := start ["value", "letter"] [V.str x]) (H := H1) (fun _ => true) (fun i => .bl (isLow (x.cps.toList.getD i 0))) (Y := fun i H v H' => H' = H ∧ ∃ c, x.cps[i]? = some c ∧ v = .str ⟨#[c]⟩) (n := x.cps.size) (by have : x.cps.size = x.length := rfl; omega)
        (fun H2 e R r => ⟨.str x, rfl, x, rfl, r H2 _ _ walk_str (fun _ _ _ z => z) (Ex.refl H2) trivial⟩) (fun i y H2 H3 e hi hy => by
          obtain ⟨rfl, c, hc, rfl⟩ := hy
          refine ⟨Ex.refl _, [some (.str x), some (.str ⟨#[c]⟩)], rfl, fun R r => r, fun H4 _ Q q => q H4 (Ex.refl H4), fun _ => ?_⟩
          have ec : x.cps.toList.getD i 0 = c := by
            rw [List.getD, Array.getElem?_toList, hc]; rfl
          show Ev _ _ _ (.bl (isLow (x.cps.toList.getD i 0)))
          rw [ec, ← ch c]
          exact ev_chain ev_c (ev_var rfl) rv_leS (fun _ => ev_c) fun _ => rv_leS)
      have e1' : given x.cps.size (fun _ => true) (fun i => V.bl (isLow (x.cps.toList.getD i 0))) = ((List.range x.cps.size).map fun i => isLow (x.cps.toList.getD i 0)).map V.bl := by
        rw [given_all, List.map_map]; rfl
      rw [e1'] at lc
      refine s_ret (ev_all lc) fun H2 e2 => ?_
      have hb' : (!(isT "str" (.str x)) || !(decide ((1 : Int) ≤ x.length) && decide ((x.length : Int) ≤ 8))) = false := hb
      have e : isT "str" (.str x) = true := rfl
      rw [e, Bool.not_true, Bool.false_or, Bool.not_eq_false'] at hb'
      have z : isName (.str x) = ((List.range x.cps.size).map fun i => isLow (x.cps.toList.getD i 0)).all id := by
        show ((decide ((1 : Int) ≤ x.length) && decide ((x.length : Int) ≤ 8)) && x.cps.toList.all isLow) = _
        rw [hb', Bool.true_and, ← all_range x.cps.toList 0 isLow]
        rfl
      have g := q H2 (e1.trans e2)
      rw [z] at g
      exact g
  | _ =>
    refine q_when (b := true) (et_is (et_or (et_not (et_B (ev_cb (ea_cons (ev_var rfl) (ea_cons ev_c ea_nil)) isS))) (b := false) fun z => absurd z (by first | decide | simp [isT, isTs, tyT])) (by first | decide | simp [isT, isTs, tyT])) (fun _ H1 e1 => s_ret ev_c fun H2 e2 => q H2 (e1.trans e2)) (fun z => absurd z (by decide))
end
end Cr
namespace Cr
open PySem PySem.Spec PyProof.Rows L2 Evl
/-- a tuple of the module's top -/
def KTup (K : PySem.W.Frag) (a : Addr) (xs : List V) : Prop := ∃ (o : Obj) (its : Array Value) (n : Nat), K.lookup a = some o ∧ o.cls = .type "tuple" ∧ o.data = .seq its n ∧ its.size ≤ sizeLine ∧ Vals xs its.toList
theorem KTup.sq {K : PySem.W.Frag} {H : Hp} {a : Addr} {xs : List V} (h : KTup K a xs) : SqT K H a xs := .inr h
/-! ### the mirror -/
def isItem (d : PyData) (k : Str) : Bool :=
  if k = "variable" then isVar d
  else if k = "integer" then isInteger d
  else if k = "length" then isInteger d && atLeast 1 d
  else isName d
def shapeOf (z : Str) : Option (List Str) :=
  if z = "set" then some ["variable", "integer"] else if z = "add" then some ["variable", "variable"] else if z = "skip" then some ["variable", "length"]
  else if z = "export" then some ["name", "variable"] else if z = "read" then some ["variable", "module", "name"] else if z = "need" then some ["module"]
  else if z = "try" then some ["module", "variable"] else if z = "fail" then some [] else none
def stepItems (ds : List PyData) (ks : List Str) : Bool := ((List.range ks.length).map fun i => isItem (ds.getD i .none) (ks.getD i "")).all id
def isStep : PyData → Bool
  | .tuple (.str z :: ds) => (match shapeOf z with
    | some ks => decide (ds.length = ks.length) && stepItems ds ks
    | none => false)
  | _ => false
def plain3 : List Str := ["set", "add", "skip"]
def isPlain (d : PyData) : Bool := isStep d && (match d with
  | .tuple (.str z :: _) => plain3.any fun y => y == z
  | _ => false)
/-- the table of shapes, as the top left it -/
structure Shapes (K : PySem.W.Frag) (w : World) (dS : Addr) (es : Array DictEntry) (n : Nat) : Prop where
  kd : KDict K w dS es n
  no : ∀ z, shapeOf z = none → PySem.W.nsIn K dS z = some none
  yes : ∀ z ks, shapeOf z = some ks → ∃ a, PySem.W.nsIn K dS z = some (some (.ref a)) ∧ KTup K a (ks.map V.str)
theorem inV_strs (z : Str) (l : List Str) : inV (.str z) (l.map V.str) = l.any fun y => y == z := by
  unfold inV
  rw [List.any_map]
  rfl
theorem flat_strs (l : List Str) : (l.map V.str).all flatV = true := by
  rw [List.all_map]
  exact List.all_eq_true.mpr fun _ _ => rfl
/-- is_item's promise -/
def spItem : Sp := fun vs H Q _ => ∃ v d k, vs = [v, .str k] ∧ Dt H v d ∧ sm d = true ∧ ∀ H', Ex H H' → Q (.bl (isItem d k)) H'
section
variable {P : Program} {w : World} {K : PySem.W.Frag} {mg : Str → Option Value} {base : Heap}
theorem ok_isVar {f aV : Addr} {fd : FuncData} {k : Nat} (F : Fun K "is_variable" "is_variable" sIsVariable f fd) (B : Blt mg) (gV : mg "VARIABLES" = some (.ref aV)) (tV : KTup K aV (vars4.map V.str)) : FnOk P w K mg base CX0 (k + 1) f fd ["value"] (spD isVar) := by
  refine F.ok scIsVariable spD_len (fun cdv A outer s H vs Q E hr h => ?_)
  obtain ⟨v, d, rfl, hd, _, q⟩ := h
  refine ⟨_, pss_one (ps_ret (pe_and (pe_callB call_isi (by rfl) B.isi bIsi (pa_cons (pv 0) (pa_cons (pe_bltn (v := .ty "str") (by rfl) B.str bStr rfl) pa_nil)))
    (pe_one (pe_cmpR op_in_seq (pv 0) (pe_glob (v := .ref aV) (by rfl) gV rfl) (by rfl))))), ?_⟩
  have isS := rc_isi (K := K) hd memS
  cases hd with
  | str x =>
    refine s_ret (v := .bl (isVar (.str x))) (ev_is (ev_andV (b := inV (.str x) (vars4.map V.str)) (ev_cb (ea_cons (ev_var rfl) (ea_cons ev_c ea_nil)) isS) fun _ => ev_op (ev_var rfl) ev_c (rv_isT tV.sq rfl (flat_strs _))) ?_) q
    rw [inV_strs]
    rfl
  | _ => exact s_ret (ev_andV (b := false) (ev_cb (ea_cons (ev_var rfl) (ea_cons ev_c ea_nil)) isS) fun z => absurd z (by first | decide | simp [isT, isTs, tyT])) (by first | exact q | simpa [isT, isTs, tyT, isVar] using q)

theorem ok_isItem {f fI fV fN : Addr} {fd fdI fdV fdN : FuncData} {k : Nat} (F : Fun K "is_item" "is_item" sIsItem f fd)
    (GI : FnOk P w K mg base CX0 k fI fdI ["value"] (spD isInteger)) (bI : Binds K fdI ["value"] []) (kI : PySem.W.keepIn K (.ref fI) = true) (gI : mg "is_integer" = some (.ref fI))
    (GV : FnOk P w K mg base CX0 k fV fdV ["value"] (spD isVar)) (bV : Binds K fdV ["value"] []) (kV : PySem.W.keepIn K (.ref fV) = true) (gV : mg "is_variable" = some (.ref fV))
    (GN : FnOk P w K mg base CX0 k fN fdN ["value"] (spD isName)) (bN : Binds K fdN ["value"] []) (kN : PySem.W.keepIn K (.ref fN) = true) (gN : mg "is_name" = some (.ref fN)) :
    FnOk P w K mg base CX0 (k + 1) f fd ["value", "kind"] spItem := by
  refine F.ok scIsItem (fun vs H Q E h => by obtain ⟨_, _, _, rfl, _⟩ := h; rfl) (fun cdv A outer s H vs Q E hr h => ?_)
  obtain ⟨v, d, kd, rfl, hd, hs, q⟩ := h
  refine ⟨_, pss_cons (ps_if (pt_cmpR op_eq (pv 1) pe_str (nomark _)) (pss_one (ps_ret (pe_call GV hr (by rfl) gV kV bV .nil pass0 (pa_cons (pv 0) pa_nil)))) pss_nil)
    (pss_cons (ps_if (pt_cmpR op_eq (pv 1) pe_str (nomark _)) (pss_one (ps_ret (pe_call GI hr (by rfl) gI kI bI .nil pass0 (pa_cons (pv 0) pa_nil)))) pss_nil)
    (pss_cons (ps_if (pt_cmpR op_eq (pv 1) pe_str (nomark _)) (pss_one (ps_ret (pe_and (pe_call GI hr (by rfl) gI kI bI .nil pass0 (pa_cons (pv 0) pa_nil)) (pe_one (pe_cmpR op_ge (pv 0) pe_int (nomark _)))))) pss_nil)
    (pss_one (ps_ret (pe_call GN hr (by rfl) gN kN bN .nil pass0 (pa_cons (pv 0) pa_nil)))))), ?_⟩
  have ne : ∀ {z : Str}, decide (V.str kd = V.str z) = false → ¬ kd = z := fun h e => of_decide_eq_false h (by rw [e])
  have ye : ∀ {z : Str}, decide (V.str kd = V.str z) = true → kd = z := fun h => V.str.inj (of_decide_eq_true h)
  refine q_when (et_test (ev_op (ev_var rfl) ev_c (rv_eq rfl))) (fun hb H1 e1 => ?_) (fun hb H1 e1 => ?_)
  · refine s_ret (ev_call (ea_cons (ev_var rfl) ea_nil) (spv_D (Dt.ex e1 hd) hs)) fun H2 e2 => ?_
    have g := q H2 (e1.trans e2)
    unfold isItem at g
    rw [if_pos (ye hb)] at g
    exact g
  refine q_when (et_test (ev_op (ev_var rfl) ev_c (rv_eq rfl))) (fun hb2 H2 e2 => ?_) (fun hb2 H2 e2 => ?_)
  · refine s_ret (ev_call (ea_cons (ev_var rfl) ea_nil) (spv_D (Dt.ex (e1.trans e2) hd) hs)) fun H3 e3 => ?_
    have g := q H3 ((e1.trans e2).trans e3)
    unfold isItem at g
    rw [if_neg (ne hb), if_pos (ye hb2)] at g
    exact g
  refine q_when (et_test (ev_op (ev_var rfl) ev_c (rv_eq rfl))) (fun hb3 H3 e3 => ?_) (fun hb3 H3 e3 => ?_)
  · have hd3 := Dt.ex ((e1.trans e2).trans e3) hd
    refine s_ret (v := .bl (isInteger d && atLeast 1 d)) (ev_andV (ev_call (ea_cons (ev_var rfl) ea_nil) (spv_D hd3 hs)) fun hi => ?_) fun H4 e4 => ?_
    · cases hd3 with
      | int i => exact ev_op (ev_var rfl) ev_c rv_I0
      | _ => exact absurd hi (by first | decide | (revert hi; simp [isInteger, isT, isTs, tyT]))
    · have g := q H4 (((e1.trans e2).trans e3).trans e4)
      unfold isItem at g
      rw [if_neg (ne hb), if_neg (ne hb2), if_pos (ye hb3)] at g
      exact g
  · refine s_ret (ev_call (ea_cons (ev_var rfl) ea_nil) (spv_D (Dt.ex ((e1.trans e2).trans e3) hd) hs)) fun H4 e4 => ?_
    have g := q H4 (((e1.trans e2).trans e3).trans e4)
    unfold isItem at g
    rw [if_neg (ne hb), if_neg (ne hb2), if_neg (ne hb3)] at g
    exact g
end
end Cr
namespace Cr
open PySem PySem.Spec PyProof.Rows L2 Evl
section
variable {K : PySem.W.Frag} {H : Hp}
def rNotKd (K : PySem.W.Frag) (d : Addr) : R2 := fun x y H Q => ∃ (z : Str) (r : Option Value), x = .str z ∧ y = .ref d ∧ PySem.W.nsIn K d z = some r ∧ Q (.bl (!r.isSome)) H
theorem op_notKd {X : Cx} {d : Addr} {es : Array DictEntry} {n : Nat} (D : KDict X.K X.w d es n) : OpR X (compareOp .NotIn) (rNotKd X.K d) := op_notIn_kd D
theorem dt_tup {a : Addr} {ds : List PyData} (h : Dt H (.ref a) (.tuple ds)) : ∃ xs, H a = some (.tup xs) ∧ DtAll H xs ds := by
  cases h with
  | tup h t => exact ⟨_, h, t⟩
/-- a pair is taken apart -/
theorem pair_go {K : PySem.W.Frag} {σ : L2.St} {H : Hp} {T : Addr} {x y : V} {i j : Nat} {R : L2.St → Hp → Prop} (h : H T = some (.tup [x, y])) (r : R ((σ.set i (some x)).set j (some y)) H) :
    gTup K 2 (gCons (gName i) (gCons (gName j) gNil)) (.ref T) σ H R := ⟨T, [x, y], rfl, .inl (.inl h), rfl, x, [y], rfl, y, [], rfl, rfl, r⟩
end
section
variable {P : Program} {w : World} {K : PySem.W.Frag} {mg : Str → Option Value} {base : Heap}
theorem ok_isStep {f fT dS : Addr} {fd fdT : FuncData} {k n : Nat} {es : Array DictEntry} (F : Fun K "is_step" "is_step" sIsStep f fd) (B : Blt mg) (gS : mg "SHAPES" = some (.ref dS)) (S : Shapes K w dS es n)
    (GT : FnOk P w K mg base CX0 k fT fdT ["value", "kind"] spItem) (bT : Binds K fdT ["value", "kind"] []) (kT : PySem.W.keepIn K (.ref fT) = true) (gT : mg "is_item" = some (.ref fT)) :
    FnOk P w K mg base CX0 (k + 1) f fd ["value"] (spD isStep) := by
  refine F.ok scIsStep spD_len (fun cdv A outer s H vs Q E hr h => ?_)
  obtain ⟨v, d, rfl, hd, hs, q⟩ := h
  refine ⟨_, pss_cons (ps_if (PW.pt (pw_or (pt_not (pt_val (pe_callB call_isi (by rfl) B.isi bIsi (pa_cons (pv 0) (pa_cons (pe_bltn (v := .ty "tuple") (by rfl) B.tuple bTuple rfl) pa_nil)))))
      (pw_or1 (pt_cmpR op_eq (pe_callB call_len_seq (by rfl) B.len bLen (pa_cons (pv 0) pa_nil)) pe_int (nomark _))))) (pss_one (ps_ret pe_bl)) pss_nil)
    (pss_cons (ps_if (PW.pt (pw_or (pt_not (pt_val (pe_callB call_isi (by rfl) B.isi bIsi (pa_cons (pe_ix ix_tup (pv 0) pe_int (fun _ _ => rfl)) (pa_cons (pe_bltn (v := .ty "str") (by rfl) B.str bStr rfl) pa_nil)))))
      (pw_or1 (pt_cmpR (op_notKd S.kd) (pe_ix ix_tup (pv 0) pe_int (fun _ _ => rfl)) (pe_glob (v := .ref dS) (by rfl) gS rfl) (by rfl))))) (pss_one (ps_ret pe_bl)) pss_nil)
    (pss_cons (ps_set (i := 1) scIsStep.nd rfl (.inl rfl) (pe_ix ix_kdict (pe_glob (v := .ref dS) (by rfl) gS rfl) (pe_ix ix_tup (pv 0) pe_int (fun _ _ => rfl)) (fun _ _ => rfl)))
    (pss_cons (ps_if (pt_cmpR op_ne (pe_callB call_len_seq (by rfl) B.len bLen (pa_cons (pv 0) pa_nil)) (pe_op op_add (pe_callB call_len_seq (by rfl) B.len bLen (pa_cons (pv 1) pa_nil)) pe_int) (nomark _)) (pss_one (ps_ret pe_bl)) pss_nil)
    (pss_one (ps_ret (pe_callB (cr_all rfl) (by rfl) B.all bAll (pa_cons
      (pe_lc (own := [("item", 2), ("kind", 3)]) (g := gTup K 2 (gCons (gName 2) (gCons (gName 3) gNil))) (tt := tYes) rfl scIsStep.nd (RZ.pi_zipA (by rfl) B.zip (pa_cons (pe_slice sl_tup (pv 0) (po_some pe_int) po_none) (pa_cons (pv 1) pa_nil))) (blkOk_by (own := [("item", 2), ("kind", 3)]) (N := ["value", "shape", "item", "kind"]) (sc := defScope sIsStep) (by decide +kernel))
        (fun _ _ _ _ _ => by exact pg_tup rfl (pgs_cons (pg_name (i := 2) scIsStep.nd rfl (Or.inl rfl)) (pgs_cons (pg_name (i := 3) scIsStep.nd rfl (Or.inl rfl)) pgs_nil))) (fun _ _ _ _ _ => pts_nil)
        (fun _ _ _ _ _ => pe_call GT hr (by rfl) gT kT bT .nil pass0 (pa_cons (pv 2) (pa_cons (pv 3) pa_nil)))) pa_nil))))))), ?_⟩
  have isS := rc_isi (K := K) hd memT
  by_cases ht : ∃ ds, d = .tuple ds
  · obtain ⟨ds, rfl⟩ := ht
    have ha : ∃ a, v = .ref a := by cases hd; exact ⟨_, rfl⟩
    obtain ⟨a, rfl⟩ := ha
    obtain ⟨xs, hx, hds⟩ := dt_tup hd
    have len := hds.length
    refine q_when (et_or (et_not (et_B (ev_cb (ea_cons (ev_var rfl) (ea_cons ev_c ea_nil)) isS))) fun _ => et_test (ev_op (ev_cb (ea_cons (ev_var rfl) ea_nil) (rc_lenT (st_of hx))) ev_c (rv_eq rfl))) (fun hb H1 e1 => ?_) (fun hb H1 e1 => ?_)
    · refine s_ret ev_c fun H2 e2 => ?_
      have hb' : (!(isT "tuple" (.tuple ds)) || decide (V.int (xs.length : Int) = V.int 0)) = true := hb
      have e : isT "tuple" (.tuple ds) = true := rfl
      rw [e, Bool.not_true, Bool.false_or] at hb'
      have z := V.int.inj (of_decide_eq_true hb')
      have g := q H2 (e1.trans e2)
      cases ds with
      | nil => exact g
      | cons y r => rw [len, List.length_cons] at z; omega
    have hb' : (!(isT "tuple" (.tuple ds)) || decide (V.int (xs.length : Int) = V.int 0)) = false := hb
    have e : isT "tuple" (.tuple ds) = true := rfl
    rw [e, Bool.not_true, Bool.false_or] at hb'
    have nz := of_decide_eq_false hb'
    cases hds with
    | nil => exact absurd rfl nz
    | @cons v0 xs' d0 ds' h0 hr' =>
    have ix0 : ∀ {H' : Hp}, Ex H H' → ∀ {σ : L2.St}, σ[0]? = some (some (.ref a)) → Ev (tOp (rIxT K) (tVar 0) (tC (.int 0))) σ H' v0 := fun e0 σ hσ => ev_op (ev_var hσ) ev_c (rv_ixT (st_of (e0 _ _ hx)) (atI_nat (j := 0) rfl))
    have h01 := Dt.ex e1 h0
    have isS0 := rc_isi (K := K) h01 memS
    by_cases hstr : ∃ z, d0 = .str z
    · obtain ⟨z, rfl⟩ := hstr
      cases h0
      cases hsh : shapeOf z with
      | none =>
        refine q_when (b := true) (et_is (et_or (et_not (et_B (ev_cb (ea_cons (ix0 e1 rfl) (ea_cons ev_c ea_nil)) isS0))) (b := true) fun _ => et_test (ev_op (ix0 e1 rfl) ev_c (rv_val fun H2 _ Q q => ⟨z, none, rfl, rfl, S.no z hsh, q⟩))) (Bool.or_true _)) (fun _ H2 e2 => s_ret ev_c fun H3 e3 => ?_) (fun z => absurd z (by decide))
        have g := q H3 ((e1.trans e2).trans e3)
        have zz : isStep (.tuple (.str z :: ds')) = false := by
          show (match shapeOf z with | some ks => _ | none => false) = false
          rw [hsh]
        rw [zz] at g
        exact g
      | some ks =>
        obtain ⟨aS, n1, tS⟩ := S.yes z ks hsh
        refine q_when (b := false) (et_is (et_or (et_not (et_B (ev_cb (ea_cons (ix0 e1 rfl) (ea_cons ev_c ea_nil)) isS0))) (b := false) fun _ => et_test (ev_op (ix0 e1 rfl) ev_c (rv_val fun H2 _ Q q => ⟨z, some (.ref aS), rfl, rfl, n1, q⟩))) rfl) (fun z => absurd z (by decide)) (fun _ H2 e2 => ?_)
        have e12 := e1.trans e2
        refine q_asg (v := .ref aS) (ev_op ev_c (ix0 e12 rfl) (rv_val fun H3 _ Q q => ⟨dS, z, .ref aS, rfl, rfl, ⟨es, n, .ref aS, S.kd.at_, S.kd.lit, n1, rfl⟩, q⟩)) fun H3 e3 => ?_
        have e13 := e12.trans e3
        have lk : (ks.map V.str).length = ks.length := List.length_map ..
        have zz : isStep (.tuple (.str z :: ds')) = (decide (ds'.length = ks.length) && stepItems ds' ks) := by
          show (match shapeOf z with | some ks => (decide (ds'.length = ks.length) && stepItems ds' ks) | none => false) = _
          rw [hsh]
        have lx := hr'.length
        refine q_when (b := !decide (ds'.length = ks.length)) (et_is (et_test (ev_op (ev_cb (ea_cons (ev_var rfl) ea_nil) (rc_lenT (st_of (e13 _ _ hx)))) (ev_op (ev_cb (ea_cons (ev_var rfl) ea_nil) (rc_lenT tS.sq)) ev_c rv_I0) (rv_ne rfl))) ?_) (fun hb2 H4 e4 => s_ret ev_c fun H5 e5 => ?_) (fun hb2 H4 e4 => ?_)
        · show (!decide (V.int (((V.str z :: xs').length : Nat) : Int) = V.int (((ks.map V.str).length : Nat) + 1 : Int))) = _
          congr 1
          rw [lk, List.length_cons]
          by_cases hh : ds'.length = ks.length
          · rw [decide_eq_true hh, decide_eq_true]
            rw [lx, hh]; rfl
          · rw [decide_eq_false hh, decide_eq_false]
            intro hz
            have := V.int.inj hz
            omega
        · have g := q H5 ((e13.trans e4).trans e5)
          rw [zz] at g
          rw [Bool.not_eq_true'] at hb2
          rw [hb2, Bool.false_and] at g
          exact g
        · rw [Bool.not_eq_false'] at hb2
          have hh := of_decide_eq_true hb2
          have e14 := e13.trans e4
          have hn : ks.length ≤ 1000 := by
            rw [sm, Bool.and_eq_true] at hs
            have := of_decide_eq_true hs.1
            rw [List.length_cons] at this
            omega
          have hsd : smAll ds' = true := by
            rw [sm, Bool.and_eq_true, smAll, Bool.and_eq_true] at hs
            exact hs.2.2
          have lc := el_lcW (wi := RZ.iZipA K (tCons (tSl (rSlT K) (tVar 0) (tPart (tC (.int 1))) tNoPart) (tCons (tVar 1) tNil))) (g := gTup K 2 (gCons (gName 2) (gCons (gName 3) gNil))) (tt := tYes) (te := tCall spItem [] E0 (tCons (tVar 2) (tCons (tVar 3) tNil))) (vs := [2, 3])
            (σ := [some (.ref a), some (.ref aS), none, none]) (H := H4) (n := ks.length) (Y := YPair (fun i => xs'[i]?) fun i => (ks.map V.str)[i]?) (fun _ => true) (fun i => .bl (isItem (ds'.getD i .none) (ks.getD i ""))) (by omega)
            (fun H5 e5 R r => by
              refine eu_tail (ev_var rfl) (st_of ((e14.trans e5) _ _ hx)) H5 (Ex.refl H5) _ fun p H6 hp e6 h6 => ?_
              refine ⟨.ref aS, rfl, p, aS, xs', ks.map V.str, rfl, .inr ⟨st_of h6, tS.sq, r H6 _ _ (walk_zipT (xs := xs') (ys := ks.map V.str) (by rw [lk]; omega)) (fun H7 H8 e7 z => ⟨ex_t e7 z.1, ex_t e7 z.2⟩) e6 ⟨st_of h6, tS.sq⟩⟩⟩)
            (fun i y H5 H6 e5 hi hy => by
              obtain ⟨T, x1, y1, rfl, hT, rfl, hx1, hy1⟩ := hy
              obtain ⟨d1, hd1, dd1⟩ := hr'.get hx1
              have hk1 : ks[i]? = some (ks.getD i "") := by
                rw [List.getElem?_eq_getElem hi]
                simp [List.getD, List.getElem?_eq_getElem hi]
              have ey : y1 = V.str (ks.getD i "") := by
                have hy2 : (ks.map V.str)[i]? = some y1 := hy1
                rw [List.getElem?_map, hk1] at hy2
                exact (Option.some.inj hy2).symm
              have ed : ds'.getD i .none = d1 := by rw [List.getD, hd1]; rfl
              subst ey
              refine ⟨Ex.new hT, [some (.ref a), some (.ref aS), some x1, some (.str (ks.getD i ""))], rfl, fun R r => pair_go upd_same r, fun H7 _ Q q => q H7 (Ex.refl H7), fun _ => ?_⟩
              rw [ed]
              refine ev_call (ea_cons (ev_var rfl) (ea_cons (ev_var rfl) ea_nil)) fun H7 e7 Q q E => ⟨x1, d1, ks.getD i "", rfl, Dt.ex (((e14.trans e5).trans (Ex.new hT)).trans e7) dd1, smAll_get hsd hd1, q⟩)
          have eg : given ks.length (fun _ => true) (fun i => V.bl (isItem (ds'.getD i .none) (ks.getD i ""))) = ((List.range ks.length).map fun i => isItem (ds'.getD i .none) (ks.getD i "")).map V.bl := by
            rw [given_all, List.map_map]; rfl
          rw [eg] at lc
          refine s_ret (ev_all lc) fun H5 e5 => ?_
          have g := q H5 (e14.trans e5)
          rw [zz, decide_eq_true hh, Bool.true_and] at g
          exact g
    · have ns : isT "str" d0 = false := by
        cases d0 with
        | str z => exact absurd ⟨z, rfl⟩ hstr
        | _ => rfl
      refine q_when (b := true) (et_is (et_or (et_not (et_B (ev_cb (ea_cons (ix0 e1 rfl) (ea_cons ev_c ea_nil)) isS0))) (b := true) fun z => absurd z (by rw [ns]; decide)) (Bool.or_true _)) (fun _ H2 e2 => s_ret ev_c fun H3 e3 => ?_) (fun z => absurd z (by decide))
      have g := q H3 ((e1.trans e2).trans e3)
      cases d0 with
      | str z => exact absurd ⟨z, rfl⟩ hstr
      | _ => exact g
  · have nt : isT "tuple" d = false := by
      cases d with
      | tuple ds => exact absurd ⟨ds, rfl⟩ ht
      | _ => rfl
    refine q_when (b := true) (et_is (et_or (et_not (et_B (ev_cb (ea_cons (ev_var rfl) (ea_cons ev_c ea_nil)) isS))) (b := true) fun z => absurd z (by rw [nt]; decide)) (Bool.or_true _)) (fun _ H1 e1 => s_ret ev_c fun H2 e2 => ?_) (fun z => absurd z (by decide))
    have g := q H2 (e1.trans e2)
    cases d with
    | tuple ds => exact absurd ⟨ds, rfl⟩ ht
    | _ => exact g

theorem ok_isPlain {f fS aP : Addr} {fd fdS : FuncData} {k : Nat} (F : Fun K "is_plain" "is_plain" sIsPlain f fd) (gP : mg "PLAIN_STEPS" = some (.ref aP)) (tP : KTup K aP (plain3.map V.str))
    (GS : FnOk P w K mg base CX0 k fS fdS ["value"] (spD isStep)) (bS : Binds K fdS ["value"] []) (kS : PySem.W.keepIn K (.ref fS) = true) (gS : mg "is_step" = some (.ref fS)) :
    FnOk P w K mg base CX0 (k + 1) f fd ["step"] (spD isPlain) := by
  refine F.ok scIsPlain spD_len (fun cdv A outer s H vs Q E hr h => ?_)
  obtain ⟨v, d, rfl, hd, hs, q⟩ := h
  refine ⟨_, pss_one (ps_ret (pe_and (pe_call GS hr (by rfl) gS kS bS .nil pass0 (pa_cons (pv 0) pa_nil)) (pe_one (pe_cmpR op_in_seq (pe_ix ix_tup (pv 0) pe_int (fun _ _ => rfl)) (pe_glob (v := .ref aP) (by rfl) gP rfl) (by rfl))))), ?_⟩
  by_cases ht : ∃ z ds, d = .tuple (.str z :: ds)
  · obtain ⟨z, ds, rfl⟩ := ht
    have ha : ∃ a, v = .ref a := by cases hd; exact ⟨_, rfl⟩
    obtain ⟨a, rfl⟩ := ha
    obtain ⟨xs, hx, hds⟩ := dt_tup hd
    cases hds with
    | cons h0 hr' =>
      cases h0
      refine s_ret (v := .bl (isPlain (.tuple (.str z :: ds)))) (ev_is (ev_andV (b := inV (.str z) (plain3.map V.str)) (ev_call (ea_cons (ev_var rfl) ea_nil) (spv_D hd hs)) fun _ => ev_op (ev_op (ev_var rfl) ev_c (rv_ixT (st_of hx) (atI_nat (j := 0) rfl))) ev_c (rv_isT tP.sq rfl (flat_strs _))) ?_) q
      rw [inV_strs]
      rfl
  · have no : isStep d = false := by
      cases d with
      | tuple ds =>
        cases ds with
        | nil => rfl
        | cons d0 ds =>
          cases d0 with
          | str z => exact absurd ⟨z, ds, rfl⟩ ht
          | _ => rfl
      | _ => rfl
    refine s_ret (ev_andV (b := false) (ev_call (ea_cons (ev_var rfl) ea_nil) (spv_D hd hs)) fun z => absurd z (by rw [no]; decide)) fun H1 e1 => ?_
    have g := q H1 e1
    unfold isPlain at g
    rw [no, Bool.false_and] at g ⊢
    exact g
end
end Cr
namespace Cr
open PySem PySem.Spec PyProof.Rows L2 Evl
theorem int_text {i : Int} (h : i.natAbs.log2 < 1000) : (Str.ofString (toString i)).length ≤ 1001 := by
  have e := int_text_length_le (k := 1000) (by decide) h
  rw [PySem.ofString_length]
  omega
theorem len_add (a b : Str) : (a ++ b).length = a.length + b.length := by
  show (a.cps ++ b.cps).size = _
  rw [Array.size_append]
  rfl
/-! ### flat values -/
def flD : V → PyData
  | .bl b => .bool b
  | .int i => .int i
  | .str x => .str x
  | _ => .none
theorem dt_flat {H : Hp} {v : V} (h : flatV v = true) : Dt H v (flD v) := by
  cases v with
  | non => exact .non
  | bl b => exact .bl b
  | int i => exact .int i
  | str x => exact .str x
  | _ => exact absurd h (fun z => nomatch z)
theorem dtAll_flat {H : Hp} : ∀ {xs : List V}, xs.all flatV = true → DtAll H xs (xs.map flD)
  | [], _ => .nil
  | x :: r, h => by
    rw [List.all_cons, Bool.and_eq_true] at h
    exact .cons (dt_flat h.1) (dtAll_flat h.2)
def leafOk : V → Bool
  | .non => true
  | .bl _ => true
  | .int i => decide (i.natAbs ≤ 10 ^ 30)
  | .str x => decide (x.length ≤ 9) && x.cps.toList.all fun c => decide (c < 128)
  | _ => false
theorem leaf_flat {v : V} (h : leafOk v = true) : flatV v = true := by
  cases v <;> first | rfl | exact absurd h (fun z => nomatch z)
theorem leaf_name {x : Str} (h : isNameS x = true) : leafOk (.str x) = true := by
  unfold isNameS at h
  simp only [Bool.and_eq_true, decide_eq_true_eq] at h
  show (decide (x.length ≤ 9) && x.cps.toList.all fun c => decide (c < 128)) = true
  rw [decide_eq_true (show x.length ≤ 9 by omega), Bool.true_and]
  refine List.all_eq_true.mpr fun c hc => ?_
  have z := List.all_eq_true.mp h.2 c hc
  unfold isLow at z
  simp only [Bool.and_eq_true, decide_eq_true_eq] at z
  exact decide_eq_true (by omega)
theorem var_cases {x : Str} (h : isVar (.str x) = true) : x = "a" ∨ x = "b" ∨ x = "c" ∨ x = "d" := by
  have z : (vars4.any fun y => y == x) = true := h
  simp only [vars4, List.any_cons, List.any_nil, Bool.or_false, Bool.or_eq_true, beq_iff_eq] at z
  rcases z with z | z | z | z
  · exact .inl z.symm
  · exact .inr (.inl z.symm)
  · exact .inr (.inr (.inl z.symm))
  · exact .inr (.inr (.inr z.symm))
theorem leaf_var {x : Str} (h : isVar (.str x) = true) : leafOk (.str x) = true := by
  rcases var_cases h with rfl | rfl | rfl | rfl <;> decide +kernel
theorem var_of {c : Nat} (h : c ∈ (("abcd" : Str)).cps.toList) : isVar (.str ⟨#[c]⟩) = true := by
  have e : (("abcd" : Str)).cps.toList = [97, 98, 99, 100] := by decide +kernel
  rw [e] at h
  simp only [List.mem_cons, List.not_mem_nil, or_false] at h
  rcases h with rfl | rfl | rfl | rfl <;> decide +kernel
/-! ### the steps -/
theorem isStep_eq {z : Str} {ks : List Str} {ds : List PyData} (h : shapeOf z = some ks) : isStep (.tuple (.str z :: ds)) = (decide (ds.length = ks.length) && stepItems ds ks) := by
  show (match shapeOf z with | some ks => (decide (ds.length = ks.length) && stepItems ds ks) | none => false) = _
  rw [h]
theorem it_var (d : PyData) : isItem d "variable" = isVar d := if_pos rfl
theorem it_int (d : PyData) : isItem d "integer" = isInteger d := by
  unfold isItem
  rw [if_neg (by decide +kernel), if_pos rfl]
theorem it_len (d : PyData) : isItem d "length" = (isInteger d && atLeast 1 d) := by
  unfold isItem
  rw [if_neg (by decide +kernel), if_neg (by decide +kernel), if_pos rfl]
theorem it_name (d : PyData) : isItem d "name" = isName d := by
  unfold isItem
  rw [if_neg (by decide +kernel), if_neg (by decide +kernel), if_neg (by decide +kernel)]
theorem it_mod (d : PyData) : isItem d "module" = isName d := by
  unfold isItem
  rw [if_neg (by decide +kernel), if_neg (by decide +kernel), if_neg (by decide +kernel)]
theorem items1 (d : PyData) (k : Str) : stepItems [d] [k] = isItem d k := by
  show (isItem d k && true) = _
  rw [Bool.and_true]
theorem items2 (d d' : PyData) (k k' : Str) : stepItems [d, d'] [k, k'] = (isItem d k && isItem d' k') := by
  show (isItem d k && (isItem d' k' && true)) = _
  rw [Bool.and_true]
theorem items3 (d d' d'' : PyData) (k k' k'' : Str) : stepItems [d, d', d''] [k, k', k''] = (isItem d k && (isItem d' k' && isItem d'' k'')) := by
  show (isItem d k && (isItem d' k' && (isItem d'' k'' && true))) = _
  rw [Bool.and_true]
theorem sh_set : shapeOf "set" = some (["variable", "integer"] : List Str) := by decide +kernel
theorem sh_add : shapeOf "add" = some (["variable", "variable"] : List Str) := by decide +kernel
theorem sh_skip : shapeOf "skip" = some (["variable", "length"] : List Str) := by decide +kernel
theorem sh_export : shapeOf "export" = some (["name", "variable"] : List Str) := by decide +kernel
theorem sh_read : shapeOf "read" = some (["variable", "module", "name"] : List Str) := by decide +kernel
theorem sh_need : shapeOf "need" = some (["module"] : List Str) := by decide +kernel
theorem sh_try : shapeOf "try" = some (["module", "variable"] : List Str) := by decide +kernel
theorem sh_fail : shapeOf "fail" = some ([] : List Str) := by decide +kernel
structure StepOk (xs : List V) : Prop where
  leaf : xs.all leafOk = true
  one : 1 ≤ xs.length
  four : xs.length ≤ 4
  step : isStep (.tuple (xs.map flD)) = true
theorem StepOk.flat {xs : List V} (h : StepOk xs) : xs.all flatV = true := List.all_eq_true.mpr fun v hv => leaf_flat (List.all_eq_true.mp h.leaf v hv)
theorem kinds_leaf : ∀ z ∈ (["set", "add", "skip", "export", "read", "need", "try", "fail"] : List Str), leafOk (.str z) = true := by decide +kernel
theorem st_set {x : Str} {n : Int} (hx : isVar (.str x) = true) (hn : n.natAbs ≤ 10 ^ 30) : StepOk [.str "set", .str x, .int n] where
  leaf := by
    rw [List.all_cons, List.all_cons, List.all_cons, kinds_leaf "set" (by decide +kernel), leaf_var hx]
    show (true && (true && (decide (n.natAbs ≤ 10 ^ 30) && true))) = true
    rw [decide_eq_true hn]
    rfl
  one := by show 1 ≤ 3; decide
  four := by show 3 ≤ 4; decide
  step := by
    rw [show ([V.str "set", V.str x, V.int n].map flD) = [.str "set", .str x, .int n] from rfl, isStep_eq sh_set, items2, it_var, it_int, hx]
    rfl
theorem st_add {x y : Str} (hx : isVar (.str x) = true) (hy : isVar (.str y) = true) : StepOk [.str "add", .str x, .str y] where
  leaf := by
    rw [List.all_cons, List.all_cons, List.all_cons, kinds_leaf "add" (by decide +kernel), leaf_var hx, leaf_var hy]
    rfl
  one := by show 1 ≤ 3; decide
  four := by show 3 ≤ 4; decide
  step := by
    rw [show ([V.str "add", V.str x, V.str y].map flD) = [.str "add", .str x, .str y] from rfl, isStep_eq sh_add, items2, it_var, it_var, hx, hy]
    rfl
theorem st_skip {x : Str} {n : Int} (hx : isVar (.str x) = true) (h1 : 1 ≤ n) (hn : n.natAbs ≤ 10 ^ 30) : StepOk [.str "skip", .str x, .int n] where
  leaf := by
    rw [List.all_cons, List.all_cons, List.all_cons, kinds_leaf "skip" (by decide +kernel), leaf_var hx]
    show (true && (true && (decide (n.natAbs ≤ 10 ^ 30) && true))) = true
    rw [decide_eq_true hn]
    rfl
  one := by show 1 ≤ 3; decide
  four := by show 3 ≤ 4; decide
  step := by
    rw [show ([V.str "skip", V.str x, V.int n].map flD) = [.str "skip", .str x, .int n] from rfl, isStep_eq sh_skip, items2, it_var, it_len, hx]
    show (decide (2 = 2) && (true && (isInteger (.int n) && decide (1 ≤ n)))) = true
    rw [decide_eq_true h1]
    rfl
theorem st_need {m : Str} (hm : isNameS m = true) : StepOk [.str "need", .str m] where
  leaf := by
    rw [List.all_cons, List.all_cons, kinds_leaf "need" (by decide +kernel), leaf_name hm]
    rfl
  one := by show 1 ≤ 2; decide
  four := by show 2 ≤ 4; decide
  step := by
    rw [show ([V.str "need", V.str m].map flD) = [.str "need", .str m] from rfl, isStep_eq sh_need, items1, it_mod]
    exact hm
theorem st_export {m x : Str} (hm : isNameS m = true) (hx : isVar (.str x) = true) : StepOk [.str "export", .str m, .str x] where
  leaf := by
    rw [List.all_cons, List.all_cons, List.all_cons, kinds_leaf "export" (by decide +kernel), leaf_name hm, leaf_var hx]
    rfl
  one := by show 1 ≤ 3; decide
  four := by show 3 ≤ 4; decide
  step := by
    rw [show ([V.str "export", V.str m, V.str x].map flD) = [.str "export", .str m, .str x] from rfl, isStep_eq sh_export, items2, it_name, it_var, hx, show isName (.str m) = true from hm]
    rfl
theorem st_try {m x : Str} (hm : isNameS m = true) (hx : isVar (.str x) = true) : StepOk [.str "try", .str m, .str x] where
  leaf := by
    rw [List.all_cons, List.all_cons, List.all_cons, kinds_leaf "try" (by decide +kernel), leaf_name hm, leaf_var hx]
    rfl
  one := by show 1 ≤ 3; decide
  four := by show 3 ≤ 4; decide
  step := by
    rw [show ([V.str "try", V.str m, V.str x].map flD) = [.str "try", .str m, .str x] from rfl, isStep_eq sh_try, items2, it_mod, it_var, hx, show isName (.str m) = true from hm]
    rfl
theorem st_read {x m n : Str} (hx : isVar (.str x) = true) (hm : isNameS m = true) (hn : isNameS n = true) : StepOk [.str "read", .str x, .str m, .str n] where
  leaf := by
    rw [List.all_cons, List.all_cons, List.all_cons, List.all_cons, kinds_leaf "read" (by decide +kernel), leaf_name hm, leaf_name hn, leaf_var hx]
    rfl
  one := by show 1 ≤ 4; decide
  four := by show 4 ≤ 4; decide
  step := by
    rw [show ([V.str "read", V.str x, V.str m, V.str n].map flD) = [.str "read", .str x, .str m, .str n] from rfl, isStep_eq sh_read, items3, it_var, it_mod, it_name, hx, show isName (.str m) = true from hm, show isName (.str n) = true from hn]
    rfl
theorem st_fail : StepOk [.str "fail"] where
  leaf := by rw [List.all_cons, kinds_leaf "fail" (by decide +kernel)]; rfl
  one := by show 1 ≤ 1; decide
  four := by show 1 ≤ 4; decide
  step := by
    rw [show ([V.str "fail"].map flD) = [.str "fail"] from rfl, isStep_eq sh_fail]
    rfl

/-- one step over drawn names -/
def skipLen : PyData → Option Int
  | .tuple (.str z :: _ :: .int i :: _) => if z = "skip" then some i else none
  | _ => none
def skipOk (n : Int) (d : PyData) : Bool :=
  match skipLen d with
  | some i => decide (i ≤ n)
  | none => true
def isBefore (d : PyData) (n : Int) : Bool := isStep d && skipOk n d
def isExport : PyData → Bool
  | .tuple (.str z :: _) => z == "export"
  | _ => false
/-- what a step is -/
theorem step_form {d : PyData} (h : isStep d = true) : ∃ z ds, d = .tuple (.str z :: ds) := by
  cases d with
  | tuple ds =>
    cases ds with
    | nil => exact nomatch h
    | cons d0 ds =>
      cases d0 with
      | str z => exact ⟨z, ds, rfl⟩
      | _ => exact nomatch h
  | _ => exact nomatch h
theorem skip_form {ds : List PyData} (h : isStep (.tuple (.str "skip" :: ds)) = true) : ∃ x i, ds = [x, .int i] := by
  rw [isStep_eq sh_skip] at h
  obtain ⟨h1, h2⟩ := Bool.and_eq_true_iff.mp h
  have hl : ds.length = 2 := of_decide_eq_true h1
  match ds, hl with
  | [x, y], _ =>
    rw [items2, it_len] at h2
    obtain ⟨_, h3⟩ := Bool.and_eq_true_iff.mp h2
    obtain ⟨h4, _⟩ := Bool.and_eq_true_iff.mp h3
    cases y with
    | int i => exact ⟨x, i, rfl⟩
    | _ => exact nomatch h4
/-- the spot of a module in a step -/
def spotOf (z : Str) : Option Nat := if z = "need" then some 1 else if z = "try" then some 1 else if z = "read" then some 2 else none
def strOf : PyData → Option Str
  | .str x => some x
  | _ => none
/-- the module of a step -/
def modO : PyData → Option Str
  | .tuple (.str z :: ds) => (spotOf z).bind fun i => strOf ((PyData.str z :: ds).getD i .none)
  | _ => none
/-- a step with a spot has a name there -/
theorem spot_name {z : Str} {ds : List PyData} {i : Nat} (h : isStep (.tuple (.str z :: ds)) = true) (hs : spotOf z = some i) : ∃ m, (PyData.str z :: ds)[i]? = some (.str m) ∧ isNameS m = true := by
  have nm : ∀ {d : PyData}, isName d = true → ∃ m, d = .str m ∧ isNameS m = true := fun {d} hd => by
    cases d with
    | str m => exact ⟨m, rfl, hd⟩
    | _ => exact nomatch hd
  unfold spotOf at hs
  by_cases h1 : z = "need"
  · subst h1
    rw [if_pos rfl] at hs
    cases hs
    rw [isStep_eq sh_need] at h
    obtain ⟨a1, a2⟩ := Bool.and_eq_true_iff.mp h
    match ds, of_decide_eq_true a1 with
    | [x], _ =>
      rw [items1, it_mod] at a2
      obtain ⟨m, rfl, hm⟩ := nm a2
      exact ⟨m, rfl, hm⟩
  rw [if_neg h1] at hs
  by_cases h2 : z = "try"
  · subst h2
    rw [if_pos rfl] at hs
    cases hs
    rw [isStep_eq sh_try] at h
    obtain ⟨a1, a2⟩ := Bool.and_eq_true_iff.mp h
    match ds, of_decide_eq_true a1 with
    | [x, y], _ =>
      rw [items2, it_mod] at a2
      obtain ⟨m, rfl, hm⟩ := nm (Bool.and_eq_true_iff.mp a2).1
      exact ⟨m, rfl, hm⟩
  rw [if_neg h2] at hs
  by_cases h3 : z = "read"
  · subst h3
    rw [if_pos rfl] at hs
    cases hs
    rw [isStep_eq sh_read] at h
    obtain ⟨a1, a2⟩ := Bool.and_eq_true_iff.mp h
    match ds, of_decide_eq_true a1 with
    | [x, y, u], _ =>
      rw [items3, it_mod] at a2
      obtain ⟨m, rfl, hm⟩ := nm (Bool.and_eq_true_iff.mp (Bool.and_eq_true_iff.mp a2).2).1
      exact ⟨m, rfl, hm⟩
  rw [if_neg h3] at hs
  cases hs
theorem modO_some {z : Str} {ds : List PyData} {i : Nat} {m : Str} (hs : spotOf z = some i) (hm : (PyData.str z :: ds)[i]? = some (.str m)) : modO (.tuple (.str z :: ds)) = some m := by
  show (spotOf z).bind _ = some m
  rw [hs, Option.bind_some, List.getD_eq_getElem?_getD, hm]
  rfl
theorem modO_none {z : Str} {ds : List PyData} (hs : spotOf z = none) : modO (.tuple (.str z :: ds)) = none := by
  show (spotOf z).bind _ = none
  rw [hs]
  rfl
theorem modO_name {d : PyData} {m : Str} (h : isStep d = true) (hm : modO d = some m) : isNameS m = true := by
  obtain ⟨z, ds, rfl⟩ := step_form h
  cases hs : spotOf z with
  | none => rw [modO_none hs] at hm; cases hm
  | some i =>
    obtain ⟨m', h1, h2⟩ := spot_name h hs
    rw [modO_some hs h1] at hm
    cases hm
    exact h2
abbrev sSM : Stmt := topS 24
abbrev nSM : List Str := ["step", "item", "kind"]
theorem scSM : FnScope nSM ["step"] (defScope sSM) := ⟨rfl, rfl, rfl, by decide +kernel, rfl, by decide +kernel, by decide +kernel⟩
def spSM : Sp := fun vs H Q _ => ∃ v d, vs = [v] ∧ Dt H v d ∧ sm d = true ∧ isStep d = true ∧ ∀ T H', H T = none → Ex H H' → H' T = some (.lst ((modO d).toList.map V.str)) → Q (.ref T) H'
/-- where the modules stand -/
def isM (ks : List Str) (i : Nat) : Bool := decide (V.str (ks.getD i "") = V.str "module")
theorem mods_given {z : Str} {ks : List Str} {ds : List PyData} {xs : List V} {H : Hp} (hsh : shapeOf z = some ks) (h : isStep (.tuple (.str z :: ds)) = true) (hd : DtAll H xs ds) :
    given ks.length (isM ks) (fun i => xs.getD i .non) = (modO (.tuple (.str z :: ds))).toList.map V.str := by
  have lx := hd.length
  have hl : ds.length = ks.length := by
    rw [isStep_eq hsh] at h
    exact of_decide_eq_true (Bool.and_eq_true_iff.mp h).1
  have none_ : spotOf z = none → (List.range ks.length).filter (isM ks) = [] → given ks.length (isM ks) (fun i => xs.getD i .non) = (modO (.tuple (.str z :: ds))).toList.map V.str := fun h1 h2 => by
    unfold given
    rw [h2, modO_none h1]
    rfl
  have some_ : ∀ j, spotOf z = some (j + 1) → (List.range ks.length).filter (isM ks) = [j] → given ks.length (isM ks) (fun i => xs.getD i .non) = (modO (.tuple (.str z :: ds))).toList.map V.str := fun j h1 h2 => by
    obtain ⟨m, hm, _⟩ := spot_name h h1
    unfold given
    rw [h2, modO_some h1 hm]
    have hm' : ds[j]? = some (.str m) := hm
    have hj : j < ds.length := (List.getElem?_eq_some_iff.mp hm').1
    have hx : xs[j]? = some (xs.getD j .non) := by
      rw [List.getD_eq_getElem?_getD, List.getElem?_eq_getElem (by omega)]
      rfl
    obtain ⟨d', h3, h4⟩ := DtAll.get hd hx
    rw [hm'] at h3
    cases h3
    show [xs.getD j .non] = [V.str m]
    generalize xs.getD j .non = u at h4 ⊢
    cases h4
    rfl
  have two : ∀ {z' : Str} {ks' : List Str}, shapeOf z' = some ks' → z = z' → ks = ks' := fun h1 h2 => by
    rw [h2, h1] at hsh
    exact (Option.some.inj hsh).symm
  have cases8 : z = "set" ∨ z = "add" ∨ z = "skip" ∨ z = "export" ∨ z = "read" ∨ z = "need" ∨ z = "try" ∨ z = "fail" := by
    unfold shapeOf at hsh
    repeat' split at hsh
    all_goals first
      | (simp_all; done)
      | cases hsh
  rcases cases8 with e | e | e | e | e | e | e | e
  · have k := two sh_set e
    subst e k
    exact none_ (by decide +kernel) (by decide +kernel)
  · have k := two sh_add e
    subst e k
    exact none_ (by decide +kernel) (by decide +kernel)
  · have k := two sh_skip e
    subst e k
    exact none_ (by decide +kernel) (by decide +kernel)
  · have k := two sh_export e
    subst e k
    exact none_ (by decide +kernel) (by decide +kernel)
  · have k := two sh_read e
    subst e k
    exact some_ 1 (by decide +kernel) (by decide +kernel)
  · have k := two sh_need e
    subst e k
    exact some_ 0 (by decide +kernel) (by decide +kernel)
  · have k := two sh_try e
    subst e k
    exact some_ 0 (by decide +kernel) (by decide +kernel)
  · have k := two sh_fail e
    subst e k
    exact none_ (by decide +kernel) (by decide +kernel)
section
variable {P : Program} {w : World} {K : PySem.W.Frag} {mg : Str → Option Value} {base : Heap}
theorem ok_sm {f dS : Addr} {fd : FuncData} {k n : Nat} {es : Array DictEntry} (F : Fun K "step_modules" "step_modules" sSM f fd) (B : Blt mg) (gS : mg "SHAPES" = some (.ref dS)) (S : Shapes K w dS es n) : FnOk P w K mg base CX0 (k + 1) f fd ["step"] spSM := by
  refine F.ok scSM (fun vs H Q E h => by obtain ⟨_, _, rfl, _⟩ := h; rfl) (fun cdv A outer s H vs Q E hr h => ?_)
  obtain ⟨v, d, rfl, hd, hs, hst, q⟩ := h
  refine ⟨_, pss_one (ps_ret (pe_lc (own := [("item", 1), ("kind", 2)]) (g := gTup K 2 (gCons (gName 1) (gCons (gName 2) gNil))) (tt := tTest (tOp rEq (tVar 2) (tC (.str "module")))) rfl scSM.nd
      (RZ.pi_zipA (by rfl) B.zip (pa_cons (pe_slice sl_tup (pv 0) (po_some pe_int) po_none) (pa_cons (pe_ix ix_kdict (pe_glob (v := .ref dS) (by rfl) gS rfl) (pe_ix ix_tup (pv 0) pe_int (fun _ _ => rfl)) (fun _ _ => rfl)) pa_nil)))
      (blkOk_by (own := [("item", 1), ("kind", 2)]) (N := nSM) (sc := defScope sSM) (by decide +kernel))
      (fun _ _ _ _ _ => by exact pg_tup rfl (pgs_cons (pg_name (i := 1) scSM.nd rfl (Or.inl rfl)) (pgs_cons (pg_name (i := 2) scSM.nd rfl (Or.inl rfl)) pgs_nil))) (fun _ _ _ _ _ => by exact pts_one (pt_cmpR op_eq (pv 2) pe_str (nomark _))) (fun _ _ _ _ _ => pv 1))), ?_⟩
  obtain ⟨z, ds, rfl⟩ := step_form hst
  have ha : ∃ a, v = .ref a := by cases hd; exact ⟨_, rfl⟩
  obtain ⟨a, rfl⟩ := ha
  obtain ⟨ys, hy0, hzs⟩ := dt_tup hd
  have hf : ∃ xs, ys = .str z :: xs ∧ DtAll H xs ds := by
    cases hzs with
    | cons h0 hr0 => cases h0; exact ⟨_, rfl, hr0⟩
  obtain ⟨xs, rfl, hds⟩ := hf
  obtain ⟨ks, hsh⟩ : ∃ ks, shapeOf z = some ks := by
    cases hsh : shapeOf z with
    | some ks => exact ⟨ks, rfl⟩
    | none =>
      have zz : isStep (.tuple (.str z :: ds)) = false := by
        show (match shapeOf z with | some ks => _ | none => false) = false
        rw [hsh]
      rw [zz] at hst
      cases hst
  obtain ⟨aS, n1, tS⟩ := S.yes z ks hsh
  have lx := hds.length
  have hl : ds.length = ks.length := by
    rw [isStep_eq hsh] at hst
    exact of_decide_eq_true (Bool.and_eq_true_iff.mp hst).1
  have l10 : ks.length ≤ 1000 := by
    rw [sm, Bool.and_eq_true] at hs
    have := of_decide_eq_true hs.1
    rw [List.length_cons] at this
    omega
  refine s_retL (el_lcW (n := ks.length) (Y := YPair (fun i => xs[i]?) fun i => (ks.map V.str)[i]?) (isM ks) (fun i => xs.getD i .non) (by omega) (fun H1 e1 R r => ?_) (fun i y H1 H2 e1 hi hy => ?_)) fun T H1 zT e1 hT => q T H1 zT e1 (by rw [hT, mods_given hsh hst hds])
  · refine eu_tail (ev_var rfl) (st_of (e1 _ _ hy0)) H1 (Ex.refl H1) _ fun p H2 hp e2 h2 => ?_
    refine ev_op (ev_var rfl) ev_c (rv_ixT (K := K) (st_of ((e1.trans e2) _ _ hy0)) (atI_nat (j := 0) rfl)) H2 (Ex.refl H2) _ fun H3 e3 => ?_
    refine ⟨dS, z, .ref aS, rfl, rfl, ⟨es, n, .ref aS, S.kd.at_, S.kd.lit, n1, rfl⟩, ?_⟩
    refine ⟨p, aS, xs, ks.map V.str, rfl, .inr ⟨st_of (e3 _ _ h2), tS.sq, r H3 _ _ (walk_zipT (xs := xs) (ys := ks.map V.str) (by rw [List.length_map]; omega)) (fun H7 H8 e7 z => ⟨ex_t e7 z.1, ex_t e7 z.2⟩) (e2.trans e3) ⟨st_of (e3 _ _ h2), tS.sq⟩⟩⟩
  · obtain ⟨T, x1, y1, rfl, hT, rfl, hx1, hy1⟩ := hy
    have hk1 : ks[i]? = some (ks.getD i "") := by
      rw [List.getElem?_eq_getElem hi]
      simp [List.getD, List.getElem?_eq_getElem hi]
    have ey : y1 = V.str (ks.getD i "") := by
      have hy2 : (ks.map V.str)[i]? = some y1 := hy1
      rw [List.getElem?_map, hk1] at hy2
      exact (Option.some.inj hy2).symm
    subst ey
    have ex1 : xs.getD i .non = x1 := by
      have hx2 : xs[i]? = some x1 := hx1
      rw [List.getD_eq_getElem?_getD, hx2]
      rfl
    refine ⟨Ex.new hT, [some (.ref a), some x1, some (.str (ks.getD i ""))], rfl, fun R r => pair_go upd_same r, et_test (ev_op (ev_var rfl) ev_c (rv_eq rfl)), fun _ => ?_⟩
    rw [ex1]
    exact ev_var rfl
end
end Cr
namespace Cr
open PySem PySem.Spec PyProof.Rows L2 Evl
/-- a def of the program as it is called -/
structure HasO (P : Program) (w : World) (K : PySem.W.Frag) (mg : Str → Option Value) (base : Heap) (k : Nat) (x : Str) (ps : List Str) (sp : Sp) : Prop where
  ex : ∃ f fd, FnOk P w K mg base CX0 k f fd ps sp ∧ Binds K fd ps [] ∧ PySem.W.keepIn K (.ref f) = true ∧ mg x = some (.ref f)
/-- .. that may raise -/
structure HasE (P : Program) (w : World) (K : PySem.W.Frag) (mg : Str → Option Value) (base : Heap) (k : Nat) (x : Str) (ps : List Str) (sp : Sp) : Prop where
  ex : ∃ f fd, FnOk P w K mg base (L2.CX P w) k f fd ps sp ∧ Binds K fd ps [] ∧ PySem.W.keepIn K (.ref f) = true ∧ mg x = some (.ref f)
theorem fnUp {P : Program} {w : World} {K : PySem.W.Frag} {mg : Str → Option Value} {base : Heap} {CX : CXT} {j k : Nat} {f : Addr} {fd : FuncData} {ps : List Str} {sp : Sp} (F : FnOk P w K mg base CX j f fd ps sp) (le : j ≤ k) : FnOk P w K mg base CX k f fd ps sp :=
  ⟨F.len, fun A outer s H args us vs Q E hr e hb r h => F.run A outer s H args us vs Q E (hr.mono le) e hb r h⟩
theorem HasO.up {P : Program} {w : World} {K : PySem.W.Frag} {mg : Str → Option Value} {base : Heap} {x : Str} {ps : List Str} {sp : Sp} {j k : Nat} (h : HasO P w K mg base j x ps sp) (le : j ≤ k) : HasO P w K mg base k x ps sp := by
  obtain ⟨f, fd, G, b, kp, g⟩ := h.ex
  exact ⟨⟨f, fd, fnUp G le, b, kp, g⟩⟩
theorem HasE.up {P : Program} {w : World} {K : PySem.W.Frag} {mg : Str → Option Value} {base : Heap} {x : Str} {ps : List Str} {sp : Sp} {j k : Nat} (h : HasE P w K mg base j x ps sp) (le : j ≤ k) : HasE P w K mg base k x ps sp := by
  obtain ⟨f, fd, G, b, kp, g⟩ := h.ex
  exact ⟨⟨f, fd, fnUp G le, b, kp, g⟩⟩

/-! ### errors with one number -/
/-- where an own error's class stands, and its __init__ -/
structure ErrAt (P : Program) (K : PySem.W.Frag) (mg : Str → Option Value) (C fI : Addr) (fd : FuncData) (b : XB) (cn qual fld : Str) (st : Stmt) : Prop where
  ex : ∃ (cda cc : Addr) (oc : Value) (od an : Option Addr) (kV doc pm ct : Value) (osl : Array (Option Value)),
    fd = PySem.W.ksFn "__init__" qual (defArgs st) (defBody st) (defScope st) .none kV doc pm an (.ref cda) ct cc ∧
    K.lookup fI = some ⟨oc, od, .func fd, osl⟩ ∧ PySem.W.codeIn K (.ref cda) qual = true ∧ SupG P K C cda cc b
  init : PySem.W.findIn K (.ref C) "__init__" = some (some (.ref fI))
  fn : PySem.W.typeIn K (.ref fI) = some (.type "function")
  no : PySem.W.findIn K (.ref C) fld = some none
  at_ : mg cn = some (.ref C)
/-- an error with the number in its field, as it is made -/
structure MkNum (P : Program) (w : World) (K : PySem.W.Frag) (mg : Str → Option Value) (base : Heap) (C : Addr) (cn p fld : Str) : Prop where
  ex : ∃ (fI : Addr) (fd : FuncData) (b : XB), OexG K C b ∧ FnOk P w K mg base CX0 1 fI fd ["self", p] (spInit C fld) ∧ Binds K fd ["self", p] [] ∧
    PySem.W.findIn K (.ref C) "__init__" = some (some (.ref fI)) ∧ PySem.W.typeIn K (.ref fI) = some (.type "function") ∧ mg cn = some (.ref C)
abbrev sInitP : Stmt := inClass (topS 4) 0
theorem scInitP : SupScope ["self", "position"] ["self", "position"] (defScope sInitP) := ⟨rfl, rfl, rfl, by decide +kernel, rfl, by decide +kernel, by decide +kernel, by decide +kernel, by decide +kernel, by decide +kernel⟩
abbrev sInitW : Stmt := inClass (topS 8) 0
theorem scInitW : SupScope ["self", "position"] ["self", "position"] (defScope sInitW) := ⟨rfl, rfl, rfl, by decide +kernel, rfl, by decide +kernel, by decide +kernel, by decide +kernel, by decide +kernel, by decide +kernel⟩
section
variable {P : Program} {w : World} {K : PySem.W.Frag} {mg : Str → Option Value} {base : Heap}
theorem ok_initP {C fI : Addr} {fd : FuncData} {b : XB} {k : Nat} (T : ErrAt P K mg C fI fd b "InvalidProgram" "InvalidProgram.__init__" "position" sInitP) (B : Blt mg) : FnOk P w K mg base CX0 (k + 1) fI fd ["self", "position"] (spInit C "position") := by
  obtain ⟨cda, cc, oc, od, an, kV, doc, pm, ct, osl, rfl, lk, hcd, S⟩ := T.ex
  refine okSupG lk hcd scInitP S B.sup rfl rfl (by decide) (fun vs H Q E h => by obtain ⟨_, _, rfl, _⟩ := h; rfl) (fun A outer s H vs Q E h => ?_)
  obtain ⟨a, i, rfl, hi, ha, q⟩ := h
  refine ⟨a, _, _, rfl, ha, pa_cons (pe_joined (.cons pe_str (.cons (pe_fmt (pv 1)) .nil))) pa_nil, pss_one (ps_ostG (pv 0) (pv 1)), ?_⟩
  have l0 : (Str.empty ++ ("not a program, position " : Str)).length ≤ 100 := by decide +kernel
  have l1 := int_text hi
  refine ⟨_, rfl, Nat.le_trans l0 (by rw [sizeLine_eq]; decide), .int i, rfl, .inr ⟨i, rfl, by omega, _, rfl, by rw [len_add, sizeLine_eq]; omega, ?_⟩⟩
  refine ⟨by show 1 ≤ 1000; decide, ha, .int i, rfl, .ref a, rfl, a, C, b, rfl, S.oex, T.no, .inl ⟨ha, fun dx hdx ne => q dx hdx ne⟩⟩
theorem mkP {C fI : Addr} {fd : FuncData} {b : XB} (T : ErrAt P K mg C fI fd b "InvalidProgram" "InvalidProgram.__init__" "position" sInitP) (B : Blt mg) : MkNum P w K mg base C "InvalidProgram" "position" "position" := by
  have G : FnOk P w K mg base CX0 1 fI fd ["self", "position"] (spInit C "position") := ok_initP T B
  obtain ⟨cda, cc, oc, od, an, kV, doc, pm, ct, osl, rfl, lk, hcd, S⟩ := T.ex
  exact ⟨⟨fI, _, b, S.oex, G, .all fun us hl => match us, hl with | [_, _], _ => rfl, T.init, T.fn, T.at_⟩⟩
theorem ok_initW {C fI : Addr} {fd : FuncData} {b : XB} {k : Nat} (T : ErrAt P K mg C fI fd b "WrongStep" "WrongStep.__init__" "position" sInitW) (B : Blt mg) : FnOk P w K mg base CX0 (k + 1) fI fd ["self", "position"] (spInit C "position") := by
  obtain ⟨cda, cc, oc, od, an, kV, doc, pm, ct, osl, rfl, lk, hcd, S⟩ := T.ex
  refine okSupG lk hcd scInitW S B.sup rfl rfl (by decide) (fun vs H Q E h => by obtain ⟨_, _, rfl, _⟩ := h; rfl) (fun A outer s H vs Q E h => ?_)
  obtain ⟨a, i, rfl, hi, ha, q⟩ := h
  refine ⟨a, _, _, rfl, ha, pa_cons (pe_joined (.cons pe_str (.cons (pe_fmt (pv 1)) (.cons pe_str .nil)))) pa_nil, pss_one (ps_ostG (pv 0) (pv 1)), ?_⟩
  have l0 : (Str.empty ++ ("the step at position " : Str)).length ≤ 100 := by decide +kernel
  have l2 : ((" is of another kind" : Str)).length ≤ 100 := by decide +kernel
  have l1 := int_text hi
  refine ⟨_, rfl, Nat.le_trans l0 (by rw [sizeLine_eq]; decide), .int i, rfl, .inr ⟨i, rfl, by omega, _, rfl, by rw [len_add, sizeLine_eq]; omega, _, rfl, by rw [len_add, len_add, sizeLine_eq]; omega, ?_⟩⟩
  refine ⟨by show 1 ≤ 1000; decide, ha, .int i, rfl, .ref a, rfl, a, C, b, rfl, S.oex, T.no, .inl ⟨ha, fun dx hdx ne => q dx hdx ne⟩⟩
theorem mkW {C fI : Addr} {fd : FuncData} {b : XB} (T : ErrAt P K mg C fI fd b "WrongStep" "WrongStep.__init__" "position" sInitW) (B : Blt mg) : MkNum P w K mg base C "WrongStep" "position" "position" := by
  have G : FnOk P w K mg base CX0 1 fI fd ["self", "position"] (spInit C "position") := ok_initW T B
  obtain ⟨cda, cc, oc, od, an, kV, doc, pm, ct, osl, rfl, lk, hcd, S⟩ := T.ex
  exact ⟨⟨fI, _, b, S.oex, G, .all fun us hl => match us, hl with | [_, _], _ => rfl, T.init, T.fn, T.at_⟩⟩
end
end Cr
namespace Cr
open PySem PySem.Spec PyProof.Rows L2 Evl
abbrev sBefore : Stmt := topS 25
abbrev sSteps : Stmt := topS 26
abbrev nBefore : List Str := ["value", "steps_after", "modules", "module"]
abbrev nSteps : List Str := ["value", "is_main", "modules", "position", "step"]
theorem scBefore : FnScope nBefore ["value", "steps_after", "modules"] (defScope sBefore) := ⟨rfl, rfl, rfl, by decide +kernel, rfl, by decide +kernel, by decide +kernel⟩
theorem scSteps : FnScope nSteps ["value", "is_main", "modules"] (defScope sSteps) := ⟨rfl, rfl, rfl, by decide +kernel, rfl, by decide +kernel, by decide +kernel⟩
/-- the modules that are allowed: all, or those of a list -/
def MdAt (H : Hp) (m : V) : Option (List V) → Prop
  | none => m = .non
  | some xs => ∃ a, m = .ref a ∧ H a = some (.lst xs) ∧ xs.all flatV = true
theorem MdAt.ex {H H' : Hp} {m : V} {ms : Option (List V)} (e : Ex H H') (h : MdAt H m ms) : MdAt H' m ms := by
  cases ms with
  | none => exact h
  | some xs =>
    obtain ⟨a, h1, h2, h3⟩ := h
    exact ⟨a, h1, e _ _ h2, h3⟩
def modsOk (ms : Option (List V)) (d : PyData) : Bool :=
  match ms with
  | none => true
  | some xs => (modO d).toList.all fun x => inV (.str x) xs
def fitsIn (ms : Option (List V)) (d : PyData) (n : Int) : Bool := isBefore d n && modsOk ms d
def spBefore : Sp := fun vs H Q _ => ∃ v d n m ms, vs = [v, .int n, m] ∧ Dt H v d ∧ sm d = true ∧ MdAt H m ms ∧ ∀ H', Ex H H' → Q (.bl (fitsIn ms d n)) H'
theorem spv_before {H : Hp} {v m : V} {d : PyData} {n : Int} {ms : Option (List V)} (h : Dt H v d) (s : sm d = true) (hm : MdAt H m ms) : SpV spBefore [v, .int n, m] H (.bl (fitsIn ms d n)) := fun H1 e Q q E => ⟨v, d, n, m, ms, rfl, Dt.ex e h, s, hm.ex e, q⟩
def tooFar (n : Int) (d : PyData) : Bool := !skipOk n d
theorem skipLen_ne {z : Str} {ds : List PyData} (hz : z ≠ "skip") : skipLen (.tuple (.str z :: ds)) = none := by
  unfold skipLen
  split
  · rename_i z' _ i _ e2
    cases e2
    rw [if_neg hz]
  · rfl
section
variable {P : Program} {w : World} {K : PySem.W.Frag} {mg : Str → Option Value} {base : Heap}
theorem ok_before {f : Addr} {fd : FuncData} {k : Nat} (F : Fun K "is_step_before" "is_step_before" sBefore f fd) (B : Blt mg) (h1 : HasO P w K mg base k "is_step" ["value"] (spD isStep)) (h2 : HasO P w K mg base k "step_modules" ["step"] spSM) :
    FnOk P w K mg base CX0 (k + 1) f fd ["value", "steps_after", "modules"] spBefore := by
  obtain ⟨f1, d1, G1, b1, k1, g1⟩ := h1.ex
  obtain ⟨f2, d2, G2, b2, k2, g2⟩ := h2.ex
  refine F.ok scBefore (fun vs H Q E h => by obtain ⟨_, _, _, _, _, rfl, _⟩ := h; rfl) (fun cdv A outer s H vs Q E hr h => ?_)
  obtain ⟨v, d, n, m, ms, rfl, hd, hs, hm, q⟩ := h
  refine ⟨_, pss_cons (ps_if (PW.pt (pw_or (pt_not (pt_val (pe_call G1 hr (by rfl) g1 k1 b1 .nil pass0 (pa_cons (pv 0) pa_nil))))
      (pw_or1 (PW.pt (pw_and (pt_cmpR op_eq (pe_ix ix_tup (pv 0) pe_int (fun _ _ => rfl)) pe_str (nomark _)) (pw_and1 (pt_cmpR op_gt (pe_ix ix_tup (pv 0) pe_int (fun _ _ => rfl)) (pv 1) (nomark _)))))))) (pss_one (ps_ret pe_bl)) pss_nil)
    (pss_one (ps_ret (pe_or (pe_cmpR op_isN (pv 2) pe_non (nomark _)) (pe_one (pe_callB (cr_all rfl) (by rfl) B.all bAll (pa_cons
      (pe_lc (own := [("module", 3)]) (g := gName 3) (tt := tYes) (te := tOp (rIn K false) (tVar 3) (tVar 2)) rfl scBefore.nd (pi_list (pe_call G2 hr (by rfl) g2 k2 b2 .nil pass0 (pa_cons (pv 0) pa_nil))) (blkOk_by (own := [("module", 3)]) (N := nBefore) (sc := defScope sBefore) (by decide +kernel))
        (fun _ _ _ _ _ => pg_name (i := 3) scBefore.nd rfl (Or.inl rfl)) (fun _ _ _ _ _ => pts_nil) (fun _ _ _ _ _ => by exact pe_cmpR op_in_seq (pv 3) (pv 2) (by rfl))) pa_nil)))))), ?_⟩
  refine q_when (b := !isStep d || tooFar n d) (et_or (et_not (et_B (ev_call (ea_cons (ev_var rfl) ea_nil) (spv_D hd hs)))) fun hb => ?_) (fun hb H1 e1 => ?_) (fun hb H1 e1 => ?_)
  · have st : isStep d = true := by rw [Bool.not_eq_false'] at hb; exact hb
    obtain ⟨z, ds, rfl⟩ := step_form st
    have ha : ∃ a, v = .ref a := by cases hd; exact ⟨_, rfl⟩
    obtain ⟨a, rfl⟩ := ha
    obtain ⟨xs, hx, hds⟩ := dt_tup hd
    by_cases hz : z = "skip"
    · subst hz
      obtain ⟨x, i, rfl⟩ := skip_form st
      cases hds with
      | cons h0 hr1 =>
        cases hr1 with
        | cons h1 hr2 =>
          cases hr2 with
          | cons h2 hr3 =>
            cases h0; cases h2; cases hr3
            refine et_is (et_and (b := decide (i > n)) (et_test (ev_op (ev_op (ev_var rfl) ev_c (rv_ixT (st_of hx) (atI_nat (j := 0) rfl))) ev_c (rv_eq rfl))) fun _ => et_test (ev_op (ev_op (ev_var rfl) ev_c (rv_ixT (st_of hx) (atI_nat (j := 2) rfl))) (ev_var rfl) rv_I0)) ?_
            rw [decide_eq_true rfl, Bool.true_and]
            show _ = !decide (i ≤ n)
            by_cases hi : i ≤ n
            · rw [decide_eq_true hi, decide_eq_false (by omega)]; rfl
            · rw [decide_eq_false hi, decide_eq_true (by omega)]; rfl
    · cases hds with
      | cons h0 hr1 =>
        cases h0
        have ne : V.str z ≠ V.str "skip" := fun e => hz (V.str.inj e)
        refine et_is (et_and (b := true) (et_test (ev_op (ev_op (ev_var rfl) ev_c (rv_ixT (st_of hx) (atI_nat (j := 0) rfl))) ev_c (rv_eq rfl))) fun z2 => absurd (of_decide_eq_true z2) ne) ?_
        rw [decide_eq_false ne]
        unfold tooFar skipOk
        rw [skipLen_ne hz]
        rfl
  · refine s_ret ev_c fun H2 e2 => ?_
    have g := q H2 (e1.trans e2)
    have zz : fitsIn ms d n = false := by
      unfold fitsIn isBefore
      rcases Bool.or_eq_true_iff.mp hb with z | z
      · rw [Bool.not_eq_true'] at z
        rw [z]; rfl
      · unfold tooFar at z
        rw [Bool.not_eq_true'] at z
        rw [z, Bool.and_false]; rfl
    rw [zz] at g
    exact g
  · rw [Bool.or_eq_false_iff] at hb
    have st : isStep d = true := by have z := hb.1; rw [Bool.not_eq_false'] at z; exact z
    have sk : skipOk n d = true := by have z := hb.2; unfold tooFar at z; rw [Bool.not_eq_false'] at z; exact z
    have bf : isBefore d n = true := by unfold isBefore; rw [st, sk]; rfl
    refine s_ret (v := .bl (fitsIn ms d n)) ?_ fun H2 e2 => q H2 (e1.trans e2)
    have ff : fitsIn ms d n = modsOk ms d := by unfold fitsIn; rw [bf]; rfl
    rw [ff]
    cases ms with
    | none =>
      have hm' : m = .non := hm
      subst hm'
      exact ev_is (ev_orV (b := true) (ev_op (ev_var rfl) ev_c (rv_val fun H2 _ Q q => ⟨rfl, q⟩)) fun z => nomatch z) rfl
    | some xs =>
      obtain ⟨a, rfl, hxs, hf⟩ := hm
      have hx1 := e1 _ _ hxs
      have lst : EvL (tCall spSM [] E0 (tCons (tVar 0) tNil)) (L2.start nBefore [v, .int n, .ref a]) H1 ((modO d).toList.map V.str) := fun H2 e2 Q' q' => ⟨v, rfl, v, d, rfl, Dt.ex (e1.trans e2) hd, hs, st, q'⟩
      have l1 : (modO d).toList.length ≤ 1 := by cases modO d <;> simp
      have lc := el_lcNL (K := K) (j := 3) (vs := [3]) (t := tYes) (te := tOp (rIn K false) (tVar 3) (tVar 2)) (fun _ => true) (fun i => .bl (inV (.str ((modO d).toList.getD i "")) xs)) lst (by rw [List.length_map]; omega) (fun _ => rfl) (fun i x H2 e2 hx => fun H3 _ Q q => q H3 (Ex.refl H3))
        (fun i x H2 e2 hx _ => by
          rw [List.getElem?_map] at hx
          have hi : i < (modO d).toList.length := by
            cases hh : (modO d).toList[i]? with
            | none => rw [hh] at hx; cases hx
            | some y => exact (List.getElem?_eq_some_iff.mp hh).1
          rw [List.getElem?_eq_getElem hi] at hx
          have ex : x = .str ((modO d).toList.getD i "") := by
            rw [List.getD_eq_getElem?_getD, List.getElem?_eq_getElem hi]
            exact (Option.some.inj hx).symm
          subst ex
          exact ev_op (ev_var rfl) (ev_var rfl) (rv_isL (sq_of (e2 _ _ hx1)) rfl hf))
      rw [List.length_map] at lc
      have eg : given (modO d).toList.length (fun _ => true) (fun i => V.bl (inV (.str ((modO d).toList.getD i "")) xs)) = ((List.range (modO d).toList.length).map fun i => inV (.str ((modO d).toList.getD i "")) xs).map V.bl := by
        rw [given_all, List.map_map]; rfl
      rw [eg] at lc
      refine ev_is (ev_orV (ev_op (ev_var rfl) ev_c (rv_val fun H2 _ Q q => ⟨rfl, q⟩)) fun _ => ev_all lc) ?_
      rw [decide_eq_false (fun z => nomatch z), Bool.false_or]
      congr 1
      exact all_range (modO d).toList "" fun x => inV (.str x) xs
end
end Cr
namespace Cr
open PySem PySem.Spec PyProof.Rows L2 Evl
def wrongAt (ms : Option (List V)) (main : Bool) (ds : List PyData) (i : Nat) : Bool := !fitsIn ms (ds.getD i .none) ((ds.length : Int) - i - 1) || (main && isExport (ds.getD i .none))
def firstBad (ms : Option (List V)) (main : Bool) (ds : List PyData) : Option Nat := (List.range ds.length).find? (wrongAt ms main ds)
def dueOf (ms : Option (List V)) (main : Bool) : PyData → Option Int
  | .list ds => if ds.length > 30 then some (-1) else (firstBad ms main ds).map fun i => (i : Int)
  | _ => some (-1)
theorem first_at {ms : Option (List V)} {main : Bool} {ds : List PyData} {i : Nat} (hi : i < ds.length) (hw : wrongAt ms main ds i = true) (hb : ∀ j, j < i → wrongAt ms main ds j = false) : firstBad ms main ds = some i := by
  unfold firstBad
  have e : List.range ds.length = List.range i ++ (List.range (ds.length - i)).map (i + ·) := by
    rw [← List.range_add]
    congr 1
    omega
  rw [e, List.find?_append]
  have n1 : (List.range i).find? (wrongAt ms main ds) = none := by
    rw [List.find?_eq_none]
    intro j hj
    rw [hb j (List.mem_range.mp hj)]
    decide
  rw [n1, Option.none_or]
  obtain ⟨m, hm⟩ : ∃ m, ds.length - i = m + 1 := ⟨ds.length - i - 1, by omega⟩
  rw [hm, List.range_succ_eq_map, List.map_cons, List.find?_cons]
  rw [Nat.add_zero, hw]
theorem first_none {ms : Option (List V)} {main : Bool} {ds : List PyData} (hb : ∀ j, j < ds.length → wrongAt ms main ds j = false) : firstBad ms main ds = none := by
  unfold firstBad
  rw [List.find?_eq_none]
  intro j hj
  rw [hb j (List.mem_range.mp hj)]
  decide
/-- check_steps -/
def spSteps (C : Addr) : Sp := fun vs H Q E => ∃ v d main m ms, vs = [v, .bl main, m] ∧ Dt H v d ∧ sm d = true ∧ MdAt H m ms ∧ (dueOf ms main d = none → ∀ H', Ex H H' → Q .non H') ∧
  ∀ i, dueOf ms main d = some i → ∀ dx H', H dx = none → Ex H H' → H' dx = some (.xd [("position", .int i)]) → E (.ref C) (some dx) H'
def spCheck (C : Addr) : Sp := fun vs H Q E => ∃ v d main, vs = [v, .bl main] ∧ Dt H v d ∧ sm d = true ∧ (dueOf none main d = none → ∀ H', Ex H H' → Q .non H') ∧
  ∀ i, dueOf none main d = some i → ∀ dx H', H dx = none → Ex H H' → H' dx = some (.xd [("position", .int i)]) → E (.ref C) (some dx) H'
theorem dt_list {H : Hp} {a : Addr} {ds : List PyData} (h : Dt H (.ref a) (.list ds)) : ∃ xs, H a = some (.lst xs) ∧ DtAll H xs ds := by
  cases h with
  | lst h h2 => exact ⟨_, h, h2⟩
theorem sm_all {ds : List PyData} (h : sm (.list ds) = true) : smAll ds = true := by
  rw [sm] at h
  exact (Bool.and_eq_true_iff.mp h).2
def tooLong : PyData → Bool
  | .list ds => decide (ds.length > 30)
  | _ => true
theorem due_long {ms : Option (List V)} {main : Bool} {d : PyData} (h : tooLong d = true) : dueOf ms main d = some (-1) := by
  cases d with
  | list ds => exact if_pos (of_decide_eq_true h)
  | _ => rfl
theorem list_form {H : Hp} {v : V} {d : PyData} (hd : Dt H v d) (h : isT "list" d = true) : ∃ a xs ds, v = .ref a ∧ d = .list ds ∧ H a = some (.lst xs) ∧ DtAll H xs ds := by
  cases hd with
  | lst h1 h2 => exact ⟨_, _, _, rfl, rfl, h1, h2⟩
  | _ => exact absurd h (by first | decide | (simp [isT, isTs, tyT]))
section
variable {P : Program} {w : World} {K : PySem.W.Frag} {mg : Str → Option Value} {base : Heap}
theorem ok_steps {f C : Addr} {fd : FuncData} {k : Nat} (F : Fun K "check_steps" "check_steps" sSteps f fd) (B : Blt mg) (T : MkNum P w K mg base C "InvalidProgram" "position" "position") (hk2 : 2 ≤ k) {tM : Tok} (gM : mg "MOST_STEPS" = some (.int 30 tM))
    (h1 : HasO P w K mg base k "is_step_before" ["value", "steps_after", "modules"] spBefore) : FnOk P w K mg base (L2.CX P w) (k + 1) f fd ["value", "is_main", "modules"] (spSteps C) := by
  obtain ⟨f1, d1, G1, b1, k1, g1⟩ := h1.ex
  obtain ⟨fI, fdI, bb, Ox, FI, bI, iI, tI, gC⟩ := T.ex
  refine F.okX scSteps (fun vs H Q E h => by obtain ⟨_, _, _, _, _, rfl, _⟩ := h; rfl) (fun cdv A outer s H vs Q E hr h => ?_)
  obtain ⟨v, d, main, m, ms, rfl, hd, hs, hm, q, qe⟩ := h
  refine ⟨_, pss_cons (ps_if (PW.pt (pw_or (pt_not (pt_val (pe_callB call_isi (by rfl) B.isi bIsi (pa_cons (pv 0) (pa_cons (pe_bltn (v := .ty "list") (by rfl) B.list bList rfl) pa_nil)))))
      (pw_or1 (pt_cmpR op_gt (pe_callB call_len_seq (by rfl) B.len bLen (pa_cons (pv 0) pa_nil)) (pe_glob (v := .int 30) (by rfl) gM ⟨_, rfl⟩) (nomark _)))))
      (pss_one (ps_raise rfl (takes_of rfl rfl rfl rfl) (pmkG Ox iI tI FI (hr.mono hk2) bI .nil pass0 (by rfl) gC (pa_cons (pe_un un_neg pe_int) pa_nil)))) pss_nil)
    (pss_one (ps_for (passes_of rfl) rfl (pi_enum (by rfl) B.enum (pa_cons (pv 0) pa_nil)) (pg_tup rfl (pgs_cons (pg_name (i := 3) scSteps.nd rfl (.inl rfl)) (pgs_cons (pg_name (i := 4) scSteps.nd rfl (.inl rfl)) pgs_nil)))
      (pss_cons (ps_if (pt_not (pt_val (pe_call G1 hr (by rfl) g1 k1 b1 .nil pass0 (pa_cons (pv 4) (pa_cons (pe_op op_sub (pe_op op_sub (pe_callB call_len_seq (by rfl) B.len bLen (pa_cons (pv 0) pa_nil)) (pv 3)) pe_int) (pa_cons (pv 2) pa_nil))))))
        (pss_one (ps_raise rfl (takes_of rfl rfl rfl rfl) (pmkG Ox iI tI FI (hr.mono hk2) bI .nil pass0 (by rfl) gC (pa_cons (pv 3) pa_nil)))) pss_nil)
      (pss_one (ps_if (PW.pt (pw_and (pt_cmpR op_isBl (pv 1) pe_bl (nomark _)) (pw_and1 (pt_cmpR op_eq (pe_ix ix_tup (pv 4) pe_int (fun _ _ => rfl)) pe_str (nomark _)))))
        (pss_one (ps_raise rfl (takes_of rfl rfl rfl rfl) (pmkG Ox iI tI FI (hr.mono hk2) bI .nil pass0 (by rfl) gC (pa_cons (pv 3) pa_nil)))) pss_nil))))), ?_⟩
  -- raised
  have up : ∀ {i : Int} {H1 : Hp}, dueOf ms main d = some i → Ex H H1 → ∀ dx, H1 dx = none → E (.ref C) (some dx) (upd H1 dx (.xd [("position", .int i)])) := fun hi e dx hz => qe _ hi dx _ (fresh_back e hz) (e.trans (Ex.new hz)) upd_same
  have isL := rc_isi (K := K) (T := "list") hd (by decide)
  refine q_when (b := !isT "list" d || tooLong d) (et_or (et_not (et_B (ev_cb (ea_cons (ev_var rfl) (ea_cons ev_c ea_nil)) isL))) fun hb => ?_) (fun hb H1 e1 => ?_) (fun hb H1 e1 => ?_)
  · have hL : isT "list" d = true := by rw [Bool.not_eq_false'] at hb; exact hb
    obtain ⟨a, xs, ds, rfl, rfl, hx, hds⟩ := list_form hd hL
    refine et_is (et_test (ev_op (ev_cb (ea_cons (ev_var rfl) ea_nil) (rc_lenL (sq_of hx))) ev_c rv_I0)) ?_
    show decide ((xs.length : Int) > 30) = decide (ds.length > 30)
    rw [hds.length]
    exact decide_eq_decide.mpr (by omega)
  · have hL : tooLong d = true := by
      cases d with
      | list ds =>
        have hb' : (!isT "list" (.list ds) || tooLong (.list ds)) = true := hb
        rw [show isT "list" (.list ds) = true from rfl, Bool.not_true, Bool.false_or] at hb'
        exact hb'
      | _ => rfl
    exact mk_num ⟨1, rfl, -1, rfl, by decide +kernel, fun dx hz => up (due_long hL) e1 dx hz⟩ (fun k ⟨i, e, r⟩ => ⟨i, e, k _ _ r⟩)
  · rw [Bool.or_eq_false_iff] at hb
    have hL : isT "list" d = true := by have := hb.1; rw [Bool.not_eq_false'] at this; exact this
    obtain ⟨a, xs, ds, rfl, rfl, hx, hds⟩ := list_form hd hL
    have h30 : ¬ ds.length > 30 := of_decide_eq_false hb.2
    have lx := hds.length
    have due : dueOf ms main (.list ds) = (firstBad ms main ds).map fun i => (i : Int) := if_neg h30
    refine ⟨.ref a, rfl, a, xs, rfl, sq_of (e1 _ _ hx), for_it (walk_enum (K := K) (a := a) (xs := xs)) (fun i σ H' => ∃ y2 y3, σ = [some (.ref a), some (.bl main), some m, y2, y3] ∧ Ex H1 H' ∧ ∀ j, j < i → wrongAt ms main ds j = false)
      ⟨none, none, rfl, Ex.refl _, fun j hj => absurd hj (Nat.not_lt_zero _)⟩ (fun i σ H' _ hP => ?_) (fun i x σ H' H2 hi hP hY => ?_) (fun σ H' hP => ?_)⟩
    · obtain ⟨_, _, _, e, _⟩ := hP
      exact sq_of (e _ _ (e1 _ _ hx))
    · obtain ⟨y2, y3, rfl, e2, hw⟩ := hP
      obtain ⟨T', x0, y, rfl, zT, rfl, hx0, hy⟩ := hY
      have hx0' : V.int (i : Nat) = x0 := Option.some.inj hx0
      subst hx0'
      obtain ⟨dy, hdy, hDy⟩ := DtAll.get hds hy
      have sy : sm dy = true := smAll_get (sm_all hs) hdy
      have e3 := Ex.new (o := .tup [.int (i : Nat), y]) zT
      have eH := (e1.trans e2).trans e3
      refine pair_go upd_same ?_
      have gd0 : ds.getD i .none = dy := by rw [List.getD_eq_getElem?_getD, hdy]; rfl
      have hi' : i < ds.length := by omega
      have sml : ((i : Nat) : Int).natAbs.log2 < 1000 := by
        rw [Int.natAbs_natCast]
        exact Nat.lt_of_le_of_lt (Nat.log2_le_self i) (by omega)
      refine q_when (b := !fitsIn ms dy ((ds.length : Int) - i - 1)) (et_not (et_B (ev_call (ea_cons (ev_var rfl) (ea_cons (ev_is (ev_op (ev_op (ev_cb (ea_cons (ev_var rfl) ea_nil) (rc_lenL (sq_of (eH _ _ hx)))) (ev_var rfl) rv_I0) ev_c rv_I0) (by rw [lx])) (ea_cons (ev_var rfl) ea_nil))) (spv_before (Dt.ex eH hDy) sy (hm.ex eH))))) (fun hb2 H3 e4 => ?_) (fun hb2 H3 e4 => ?_)
      · have wr : wrongAt ms main ds i = true := by
          unfold wrongAt
          rw [gd0, hb2, Bool.true_or]
        exact mk_num ⟨.int (i : Nat), rfl, (i : Nat), rfl, sml, fun dx hz => up (by rw [due, first_at hi' wr hw]; rfl) (eH.trans e4) dx hz⟩ (fun k ⟨i, e, r⟩ => ⟨i, e, k _ _ r⟩)
      · have bf : fitsIn ms dy ((ds.length : Int) - i - 1) = true := by rw [Bool.not_eq_false'] at hb2; exact hb2
        have st : isStep dy = true := (Bool.and_eq_true_iff.mp (Bool.and_eq_true_iff.mp bf).1).1
        obtain ⟨z, zs, rfl⟩ := step_form st
        have hay : ∃ b, y = .ref b := by cases hDy; exact ⟨_, rfl⟩
        obtain ⟨b, rfl⟩ := hay
        obtain ⟨ys, hys, hzs⟩ := dt_tup hDy
        cases hzs with
        | cons h0 hr0 =>
          cases h0
          have eH4 := eH.trans e4
          refine s_when (b := main && (z == "export")) (et_and (et_is (et_test (ev_op (ev_var rfl) ev_c (rv_val fun H6 _ Q q => ⟨_, _, rfl, rfl, q⟩))) (by cases main <;> rfl)) fun _ => et_is (et_test (ev_op (ev_op (ev_var rfl) ev_c (rv_ixT (st_of (eH4 _ _ hys)) (atI_nat (j := 0) rfl))) ev_c (rv_eq rfl))) ?_) (fun hb3 H4 e5 => ?_) (fun hb3 H4 e5 => ?_)
          · by_cases hz : z = "export"
            · subst hz; rw [decide_eq_true rfl]; decide
            · rw [decide_eq_false (fun e => hz (V.str.inj e)), beq_eq_false_iff_ne.mpr hz]
          · have wr : wrongAt ms main ds i = true := by
              unfold wrongAt
              rw [gd0]
              show (_ || (main && (z == "export"))) = true
              rw [hb3, Bool.or_true]
            exact mk_num ⟨.int (i : Nat), rfl, (i : Nat), rfl, sml, fun dx hz => up (by rw [due, first_at hi' wr hw]; rfl) (eH4.trans e5) dx hz⟩ (fun k ⟨i, e, r⟩ => ⟨i, e, k _ _ r⟩)
          · refine ⟨_, _, rfl, ((e2.trans e3).trans e4).trans e5, fun j hj => ?_⟩
            by_cases hji : j = i
            · subst hji
              unfold wrongAt
              rw [gd0, bf]
              show (_ || (main && (z == "export"))) = false
              rw [hb3]; rfl
            · exact hw j (by omega)
    · obtain ⟨_, _, rfl, e2, hw⟩ := hP
      exact q (by rw [due, first_none fun j hj => hw j (by omega)]; rfl) H' (e1.trans e2)
end
end Cr
namespace Cr
open PySem PySem.Spec PyProof.Rows L2 Evl
abbrev sCheck : Stmt := topS 27
abbrev sBareW : Stmt := topS 15
abbrev sBareI : Stmt := topS 28
abbrev sBareP : Stmt := topS 29
abbrev nBareP : List Str := ["program", "step", "item"]
theorem scCheck : FnScope ["value", "is_main"] ["value", "is_main"] (defScope sCheck) := ⟨rfl, rfl, rfl, by decide +kernel, rfl, by decide +kernel, by decide +kernel⟩
theorem scBareW : FnScope ["word"] ["word"] (defScope sBareW) := ⟨rfl, rfl, rfl, by decide +kernel, rfl, by decide +kernel, by decide +kernel⟩
theorem scBareI : FnScope ["item"] ["item"] (defScope sBareI) := ⟨rfl, rfl, rfl, by decide +kernel, rfl, by decide +kernel, by decide +kernel⟩
theorem scBareP : FnScope nBareP ["program"] (defScope sBareP) := ⟨rfl, rfl, rfl, by decide +kernel, rfl, by decide +kernel, by decide +kernel⟩
/-- check_program, as it is called: one value, or is_main by its name -/
structure HasC (P : Program) (w : World) (K : PySem.W.Frag) (mg : Str → Option Value) (base : Heap) (k : Nat) (C : Addr) : Prop where
  ex : ∃ f fd, FnOk P w K mg base (L2.CX P w) k f fd ["value", "is_main"] (spCheck C) ∧ (∃ ds, Vals [.bl false] ds ∧ Binds K fd ["value", "is_main"] ds) ∧ (∃ g, KBn K fd ["value", "is_main"] 1 ["is_main"] g (fun vs zs => vs ++ zs)) ∧
    PySem.W.keepIn K (.ref f) = true ∧ mg "check_program" = some (.ref f)
/-! ### bare values -/
/-- texts and ints of a step -/
def bareV : V → Bool
  | .int _ => true
  | .str x => decide (x.length ≤ 1000)
  | _ => false
def spBareW : Sp := fun vs H Q _ => ∃ x : Str, vs = [.str x] ∧ x.length ≤ 1000 ∧ ∀ H', Ex H H' → Q (.str x) H'
def spBareI : Sp := fun vs H Q _ => ∃ v : V, vs = [v] ∧ bareV v = true ∧ ∀ H', Ex H H' → Q v H'
/-- steps stand at the places xs: tuples of the values vss -/
def Steps (H : Hp) : List V → List (List V) → Prop
  | [], [] => True
  | x :: xs, vs :: vss => (∃ t, x = .ref t ∧ H t = some (.tup vs)) ∧ Steps H xs vss
  | _, _ => False
/-- all tuples stand as they stood -/
def Tps (H H' : Hp) : Prop := ∀ a xs, H a = some (.tup xs) → H' a = some (.tup xs)
theorem Ex.tps {H H' : Hp} (e : Ex H H') : Tps H H' := fun a xs h => e a _ h
theorem Tps.refl (H : Hp) : Tps H H := fun _ _ h => h
theorem Tps.trans {H H1 H2 : Hp} (a : Tps H H1) (b : Tps H1 H2) : Tps H H2 := fun x o h => b x o (a x o h)
theorem Tps.upd {H H' : Hp} {p : Addr} {o : HO} (a : Tps H H') (h : ∀ xs, H' p ≠ some (.tup xs)) : Tps H (upd H' p o) := fun x xs z => by
  have y := a x xs z
  rw [upd_ne (fun e => h xs (by rw [← e]; exact y))]
  exact y
theorem Steps.tps {H H' : Hp} (e : Tps H H') : ∀ {xs : List V} {vss : List (List V)}, Steps H xs vss → Steps H' xs vss
  | [], [], _ => trivial
  | _ :: _, _ :: _, ⟨⟨t, h1, h2⟩, h⟩ => ⟨⟨t, h1, e _ _ h2⟩, Steps.tps e h⟩
theorem Steps.length {H : Hp} : ∀ {xs : List V} {vss : List (List V)}, Steps H xs vss → xs.length = vss.length
  | [], [], _ => rfl
  | _ :: _, _ :: _, ⟨_, h⟩ => by rw [List.length_cons, List.length_cons, Steps.length h]
theorem Steps.get {H : Hp} : ∀ {xs : List V} {vss : List (List V)} {i : Nat} {vs : List V}, Steps H xs vss → vss[i]? = some vs → ∃ t, xs[i]? = some (.ref t) ∧ H t = some (.tup vs)
  | [], [], _, _, _, h => by simp at h
  | _ :: _, _ :: _, 0, _, ⟨⟨t, h1, h2⟩, _⟩, h => by simp at h; subst h; exact ⟨t, by rw [h1]; rfl, h2⟩
  | _ :: _, _ :: _, i + 1, _, ⟨_, r⟩, h => by
    obtain ⟨t, a, b⟩ := Steps.get (i := i) r (by simpa using h)
    exact ⟨t, by simpa using a, b⟩
theorem Steps.snoc {H : Hp} {t : Addr} {vs : List V} (h : H t = some (.tup vs)) : ∀ {xs : List V} {vss : List (List V)}, Steps H xs vss → Steps H (xs ++ [.ref t]) (vss ++ [vs])
  | [], [], _ => ⟨⟨t, rfl, h⟩, trivial⟩
  | _ :: _, _ :: _, ⟨a, r⟩ => ⟨a, Steps.snoc h r⟩
theorem Steps.take {H : Hp} {xs : List V} {vss : List (List V)} (h : Steps H xs vss) : ∀ {i : Nat}, Steps H (xs.take i) (vss.take i) := by
  intro i
  induction i generalizing xs vss with
  | zero => rw [List.take_zero, List.take_zero]; trivial
  | succ i ih =>
    match xs, vss, h with
    | [], [], _ => trivial
    | _ :: _, _ :: _, ⟨a, r⟩ => exact ⟨a, ih r⟩
/-- the data of such steps -/
def stepsD (vss : List (List V)) : List PyData := vss.map fun vs => .tuple (vs.map flD)
theorem Steps.dt {H : Hp} : ∀ {xs : List V} {vss : List (List V)}, Steps H xs vss → (∀ vs ∈ vss, vs.all flatV = true) → DtAll H xs (stepsD vss)
  | [], [], _, _ => .nil
  | _ :: _, vs :: vss, ⟨⟨t, h1, h2⟩, r⟩, hf => by
    subst h1
    exact .cons (.tup h2 (dtAll_flat (hf vs List.mem_cons_self))) (Steps.dt r fun v hv => hf v (List.mem_cons_of_mem _ hv))
/-- bare_program: new tuples of the same values -/
def spBareP : Sp := fun vs H Q _ => ∃ (a : Addr) (xs : List V) (vss : List (List V)), vs = [.ref a] ∧ H a = some (.lst xs) ∧ Steps H xs vss ∧ vss.length ≤ 1000 ∧ (∀ vs ∈ vss, vs.all bareV = true ∧ 1 ≤ vs.length ∧ vs.length ≤ 10) ∧
  ∀ l ys H', H l = none → Ex H H' → H' l = some (.lst ys) → Steps H' ys vss → Q (.ref l) H'
/-- the scope of a comprehension that is returned -/
def compScope : List Stmt → Scope
  | [.Return (some (.ListComp _ _ sc _)) _] => sc
  | _ => { kind := .function, names := [], isGenerator := false, isCoroutine := false, more := [] }
def rTupleOf (K : PySem.W.Frag) : List V → Hp → VK → Prop := fun xs H Q => ∃ p ys, xs = [.ref p] ∧ ((SqL K H p ys ∧ ∀ l, H l = none → Q (.ref l) (upd H l (.tup ys))) ∨ (SqT K H p ys ∧ Q (.ref p) H))
theorem eu_tupleOf {K : PySem.W.Frag} {te : TE} {σ : L2.St} {H : Hp} {xs : List V} (h : EvL te σ H xs) : EvU (tCB (rTupleOf K) (tCons te tNil)) σ H xs := fun H1 e Q q =>
  h H1 e _ fun p H2 _ e2 h2 => ⟨p, xs, rfl, .inl ⟨sq_of h2, fun l hl => q l _ (fresh_back e2 hl) (e2.trans (Ex.new hl)) upd_same⟩⟩
theorem join_one (x : Str) : Txt.join ("" : Str) [x] = x := by
  rw [TL.join_eq]
  rfl
section
variable {P : Program} {w : World} {K : PySem.W.Frag} {mg : Str → Option Value} {base : Heap}
theorem ok_check {f C : Addr} {fd : FuncData} {k : Nat} (F : Fun K "check_program" "check_program" sCheck f fd) (h1 : HasE P w K mg base k "check_steps" ["value", "is_main", "modules"] (spSteps C)) : FnOk P w K mg base (L2.CX P w) (k + 1) f fd ["value", "is_main"] (spCheck C) := by
  obtain ⟨f1, d1, G1, b1, k1, g1⟩ := h1.ex
  refine F.okX scCheck (fun vs H Q E h => by obtain ⟨_, _, _, rfl, _⟩ := h; rfl) (fun cdv A outer s H vs Q E hr h => ?_)
  obtain ⟨v, d, main, rfl, hd, hs, q, qe⟩ := h
  refine ⟨_, pss_one (ps_expr (pe_call (E := E) G1 hr (by rfl) g1 k1 b1 .nil (passes_call (takes_of rfl rfl rfl rfl) fun _ _ _ _ h => h) (pa_cons (pv 0) (pa_cons (pv 1) (pa_cons pe_non pa_nil))))), ?_⟩
  exact ⟨v, rfl, .bl main, rfl, v, d, main, .non, none, rfl, hd, hs, rfl, q, qe⟩
theorem ok_bareW {f : Addr} {fd : FuncData} {k : Nat} (F : Fun K "bare_word" "bare_word" sBareW f fd) : FnOk P w K mg base CX0 (k + 1) f fd ["word"] spBareW := by
  refine F.ok scBareW (fun vs H Q E h => by obtain ⟨_, rfl, _⟩ := h; rfl) (fun cdv A outer s H vs Q E hr h => ?_)
  obtain ⟨x, rfl, hx, q⟩ := h
  refine ⟨_, pss_one (ps_ret (pe_join pe_str (pe_lst (pa_cons (pv 0) pa_nil)))), ?_⟩
  refine ⟨⟨_, rfl⟩, _, rfl, by show 1 ≤ sizeLine; decide, fun l hl => ⟨_, l, [x], rfl, rfl, .inl (sq_of upd_same), ?_, ?_⟩⟩
  · have e0 : (("" : Str)).length = 0 := by decide +kernel
    simp [e0]
    omega
  · have g := q _ (Ex.new (o := .lst [.str x]) hl)
    rw [← join_one x] at g
    exact g
theorem ok_bareI {f : Addr} {fd : FuncData} {k : Nat} (F : Fun K "bare_item" "bare_item" sBareI f fd) (B : Blt mg) (h1 : HasO P w K mg base k "bare_word" ["word"] spBareW) : FnOk P w K mg base CX0 (k + 1) f fd ["item"] spBareI := by
  obtain ⟨f1, d1, G1, b1, k1, g1⟩ := h1.ex
  refine F.ok scBareI (fun vs H Q E h => by obtain ⟨_, rfl, _⟩ := h; rfl) (fun cdv A outer s H vs Q E hr h => ?_)
  obtain ⟨v, rfl, hv, q⟩ := h
  refine ⟨_, pss_one (ps_ret (pe_ifExp (pt_val (pe_callB call_isi (by rfl) B.isi bIsi (pa_cons (pv 0) (pa_cons (pe_bltn (v := .ty "str") (by rfl) B.str bStr rfl) pa_nil)))) (pe_call G1 hr (by rfl) g1 k1 b1 .nil pass0 (pa_cons (pv 0) pa_nil))
    (pe_callTy call_int1 (by rfl) B.int bInt (pa_cons (pv 0) pa_nil)))), ?_⟩
  cases v with
  | int i =>
    have isS := rc_isi (K := K) (H := H) (T := "str") (Dt.int i) memS
    exact s_ret (ev_if (b := false) (et_B (ev_cb (ea_cons (ev_var rfl) (ea_cons ev_c ea_nil)) isS)) (fun z => nomatch z) fun _ => ev_cb (ea_cons (ev_var rfl) ea_nil) (fun H1 _ Q q => .inl ⟨i, rfl, q H1 (Ex.refl H1)⟩)) q
  | str x =>
    have isS := rc_isi (K := K) (H := H) (T := "str") (Dt.str x) memS
    exact s_ret (ev_if (b := true) (et_B (ev_cb (ea_cons (ev_var rfl) (ea_cons ev_c ea_nil)) isS)) (fun _ => ev_call (ea_cons (ev_var rfl) ea_nil) fun H1 e1 Q q E => ⟨x, rfl, of_decide_eq_true hv, q⟩) fun z => nomatch z) q
  | _ => exact nomatch hv
theorem ok_bareP {f : Addr} {fd : FuncData} {k : Nat} (F : Fun K "bare_program" "bare_program" sBareP f fd) (B : Blt mg) (h1 : HasO P w K mg base k "bare_item" ["item"] spBareI) : FnOk P w K mg base CX0 (k + 1) f fd ["program"] spBareP := by
  obtain ⟨f1, d1, G1, b1, k1, g1⟩ := h1.ex
  refine F.ok scBareP (fun vs H Q E h => by obtain ⟨_, _, _, rfl, _⟩ := h; rfl) (fun cdv A outer s H vs Q E hr h => ?_)
  obtain ⟨a, xs, vss, rfl, ha, hS, hl, hb, q⟩ := h
  refine ⟨_, pss_one (ps_ret (pe_lc (own := [("step", 1)]) (g := gName 1) (tt := tYes) (te := tCB (rTupleOf K) (tCons (tLc (iTup K (tVar 1)) (gName 2) tYes (tCall spBareI [] E0 (tCons (tVar 2) tNil)) [2]) tNil)) rfl scBareP.nd (pi_list (pv 0)) (blkOk_by (own := [("step", 1)]) (N := nBareP) (sc := defScope sBareP) (by decide +kernel))
      (fun _ _ _ _ _ => pg_name (i := 1) scBareP.nd rfl (Or.inl rfl)) (fun _ _ _ _ _ => pts_nil)
      (fun _ _ _ _ _ => by exact pe_callTy call_tuple_of (by rfl) B.tuple bTuple (pa_cons (pe_lc (own := [("item", 2)]) (g := gName 2) (tt := tYes) rfl scBareP.nd (pi_tup (pv 1)) (blkOk_by (own := [("item", 2)]) (N := nBareP) (sc := compScope (defBody sBareP)) (by decide +kernel))
        (fun _ _ _ _ _ => pg_name (i := 2) scBareP.nd rfl (Or.inl rfl)) (fun _ _ _ _ _ => pts_nil) (fun _ _ _ _ _ => pe_call G1 hr (by rfl) g1 k1 b1 .nil pass0 (pa_cons (pv 2) pa_nil))) pa_nil)))), ?_⟩
  refine ⟨.ref a, rfl, a, rfl, ⟨_, sq_of ha⟩, fun D hD => lc_list (K := K) (a := a) (xs := xs) (fun i H' => ∃ ys, H' D = some (.lst ys) ∧ Steps H' ys (vss.take i) ∧ Ex H H') ⟨[], upd_same, by rw [List.take_zero]; trivial, Ex.new hD⟩
    (fun i H' _ hP => by obtain ⟨_, _, _, e⟩ := hP; exact sq_of (e _ _ ha)) (fun i x H' hi hP => ⟨rfl, ?_⟩) (fun H' hP => by
      obtain ⟨ys, h1, h2, e⟩ := hP
      rw [hS.length, List.take_length] at h2
      exact q D ys H' hD e h1 h2)⟩
  obtain ⟨ys, h1, h2, e⟩ := hP
  have hi2 : i < vss.length := by
    have := (List.getElem?_eq_some_iff.mp hi).1
    rw [hS.length] at this
    exact this
  obtain ⟨t, ht, hT⟩ := hS.get (List.getElem?_eq_getElem hi2)
  rw [hi] at ht
  cases ht
  obtain ⟨hbv, hb1, hb2⟩ := hb _ (List.getElem_mem hi2)
  have inner : EvL (tLc (iTup K (tVar 1)) (gName 2) tYes (tCall spBareI [] E0 (tCons (tVar 2) tNil)) [2]) [some (.ref a), some (.ref t), none] H' vss[i] := by
    have lc := el_lcW (wi := iTup K (tVar 1)) (g := gName 2) (tt := tYes) (te := tCall spBareI [] E0 (tCons (tVar 2) tNil)) (vs := [2]) (σ := [some (.ref a), some (.ref t), none]) (H := H') (n := vss[i].length) (Y := YAt vss[i]) (fun _ => true) (fun j => vss[i].getD j .non) (by omega)
      (fun H5 e5 R r => ⟨.ref t, rfl, t, rfl, ⟨_, st_of ((e.trans e5) _ _ hT)⟩, r H5 _ _ walk_tup (fun H7 H8 e7 z => ex_t e7 z) (Ex.refl H5) (st_of ((e.trans e5) _ _ hT))⟩)
      (fun j y H5 H6 e5 hj hy => by
        obtain ⟨rfl, hyj⟩ := hy
        have ey : vss[i].getD j .non = y := by rw [List.getD_eq_getElem?_getD, hyj]; rfl
        refine ⟨Ex.refl _, [some (.ref a), some (.ref t), some y], rfl, fun R r => r, fun H7 _ Q q => q H7 (Ex.refl H7), fun _ => ?_⟩
        rw [ey]
        exact ev_call (ea_cons (ev_var rfl) ea_nil) fun H7 e7 Q q E => ⟨y, rfl, List.all_eq_true.mp hbv y (List.mem_of_getElem? hyj), q⟩)
    have eg : given vss[i].length (fun _ => true) (fun j => vss[i].getD j .non) = vss[i] := by
      rw [given_all]
      refine List.ext_getElem? fun j => ?_
      by_cases hj : j < vss[i].length
      · rw [List.getElem?_map, List.getElem?_range hj, List.getElem?_eq_getElem hj]
        simp [hj]
      · rw [List.getElem?_eq_none (by rw [List.length_map, List.length_range]; omega), List.getElem?_eq_none (by omega)]
    rw [eg] at lc
    exact lc
  show tCB (rTupleOf K) (tCons (tLc (iTup K (tVar 1)) (gName 2) tYes (tCall spBareI [] E0 (tCons (tVar 2) tNil)) [2]) tNil) [some (.ref a), some (.ref t), none] H' _
  refine eu_tupleOf inner H' (Ex.refl H') _ fun l H3 hl e3 h3 => ?_
  have hD3 := e3 _ _ h1
  have lD : D ≠ l := ne_of_none h1 hl
  refine ⟨ys, hD3, ?_, ys ++ [.ref l], upd_same, ?_, Ex.mut (e.trans e3) hD⟩
  · have := h2.length
    rw [List.length_take] at this
    exact sz_lt (by omega)
  · have tp : Tps H' (upd H3 D (.lst (ys ++ [.ref l]))) := (Ex.tps e3).upd fun xs z => by
      rw [hD3] at z
      cases z
    rw [← List.take_append_getElem hi2]
    exact (h2.tps tp).snoc (by rw [upd_ne lD.symm]; exact h3)
end
end Cr
/-! frames: what they look like -/
namespace Cr
open PySem PySem.Spec PyProof.Rows L2 Evl
/-! ### four variables -/
structure M4 where
  a : Int
  b : Int
  c : Int
  d : Int
def M4.kv (m : M4) : List (Key × V) := [(.inr "a", .int m.a), (.inr "b", .int m.b), (.inr "c", .int m.c), (.inr "d", .int m.d)]
def M4.get (m : M4) (x : Str) : Int := if x = "a" then m.a else if x = "b" then m.b else if x = "c" then m.c else m.d
def M4.set (m : M4) (x : Str) (v : Int) : M4 := if x = "a" then { m with a := v } else if x = "b" then { m with b := v } else if x = "c" then { m with c := v } else { m with d := v }
def M4.zero : M4 := ⟨0, 0, 0, 0⟩
theorem ne_ab : ¬ (("a" : Str) = "b") := by decide +kernel
theorem m4_val (m : M4) {x : Str} (h : isVar (.str x) = true) : valV m.kv (.inr x) = some (.int (m.get x)) := by
  rcases var_cases h with rfl | rfl | rfl | rfl <;> rfl
theorem m4_put (m : M4) {x : Str} (h : isVar (.str x) = true) (v : Int) : putK m.kv (.inr x) (.int v) = (m.set x v).kv := by
  rcases var_cases h with rfl | rfl | rfl | rfl <;> rfl
def M4.all (m : M4) (p : Int → Prop) : Prop := p m.a ∧ p m.b ∧ p m.c ∧ p m.d
theorem M4.all_get {m : M4} {p : Int → Prop} (h : m.all p) (x : Str) : p (m.get x) := by
  unfold M4.get
  split
  · exact h.1
  split
  · exact h.2.1
  split
  · exact h.2.2.1
  · exact h.2.2.2
theorem M4.all_set {m : M4} {p : Int → Prop} (h : m.all p) {v : Int} (hv : p v) (x : Str) : (m.set x v).all p := by
  unfold M4.set
  split
  · exact ⟨hv, h.2.1, h.2.2.1, h.2.2.2⟩
  split
  · exact ⟨h.1, hv, h.2.2.1, h.2.2.2⟩
  split
  · exact ⟨h.1, h.2.1, hv, h.2.2.2⟩
  · exact ⟨h.1, h.2.1, h.2.2.1, hv⟩
theorem M4.all_imp {m : M4} {p q : Int → Prop} (h : m.all p) (i : ∀ x, p x → q x) : m.all q := ⟨i _ h.1, i _ h.2.1, i _ h.2.2.1, i _ h.2.2.2⟩
def M4.dat (m : M4) : List (PyData × PyData) := [(.str "a", .int m.a), (.str "b", .int m.b), (.str "c", .int m.c), (.str "d", .int m.d)]
theorem M4.dt {H : Hp} (m : M4) : DtKv H m.kv m.dat := .cons (.int _) (.cons (.int _) (.cons (.int _) (.cons (.int _) .nil)))

/-! ### what else stands as it stood -/
def But (l : List Addr) (H H' : Hp) : Prop := ∀ a o, a ∉ l → H a = some o → H' a = some o
theorem But.refl {l : List Addr} (H : Hp) : But l H H := fun _ _ _ h => h
theorem But.trans {l : List Addr} {H H1 H2 : Hp} (a : But l H H1) (b : But l H1 H2) : But l H H2 := fun x o n h => b x o n (a x o n h)
theorem But.of {l : List Addr} {H H' : Hp} (e : Ex H H') : But l H H' := fun a o _ h => e a o h
theorem But.upd {l : List Addr} {H H' : Hp} {p : Addr} {o : HO} (h : But l H H') (hp : p ∈ l) : But l H (upd H' p o) := fun a u n z => by
  rw [upd_ne (fun e => n (by rw [e]; exact hp))]
  exact h a u n z
theorem But.mono {l l' : List Addr} {H H' : Hp} (h : But l H H') (s : ∀ a ∈ l, a ∈ l') : But l' H H' := fun a o n z => h a o (fun y => n (s a y)) z

/-! ### the frame -/
/-- its addresses: its own dict, steps, memory, visited -/
structure FrA where
  dx : Addr
  aS : Addr
  aM : Addr
  aV : Addr
def fl (A : FrA) (pos : Nat) : List (Str × V) := [("steps", .ref A.aS), ("position", .int (pos : Int)), ("memory", .ref A.aM), ("visited", .ref A.aV)]
theorem fl_steps (A : FrA) (pos : Nat) : (fl A pos).lookup ("steps" : Str) = some (.ref A.aS) := by rfl
theorem fl_pos (A : FrA) (pos : Nat) : (fl A pos).lookup ("position" : Str) = some (.int (pos : Int)) := by rfl
theorem fl_mem (A : FrA) (pos : Nat) : (fl A pos).lookup ("memory" : Str) = some (.ref A.aM) := by rfl
theorem fl_vis (A : FrA) (pos : Nat) : (fl A pos).lookup ("visited" : Str) = some (.ref A.aV) := by rfl
theorem fl_put (A : FrA) (pos : Nat) (n : Nat) : putF "position" (.int (n : Int)) (fl A pos) = fl A n := by rfl
def own (p : Addr) (A : FrA) : List Addr := [p, A.aM, A.aV]
structure FrameAt (C : Addr) (H : Hp) (p : Addr) (A : FrA) (vss : List (List V)) (pos : Nat) (m : M4) (n : Nat) : Prop where
  ob : H p = some (.ins C A.dx (fl A pos))
  st : ∃ xs, H A.aS = some (.lst xs) ∧ Steps H xs vss
  me : H A.aM = some (.dK m.kv)
  vi : ∃ vis, H A.aV = some (.lst vis) ∧ vis.length = n
  sv : A.aS ≠ A.aV
section
variable {C : Addr} {H H' : Hp} {p : Addr} {A : FrA} {vss : List (List V)} {pos : Nat} {m : M4} {n : Nat}
theorem FrameAt.ex (h : FrameAt C H p A vss pos m n) (e : Ex H H') : FrameAt C H' p A vss pos m n := by
  obtain ⟨xs, h1, h2⟩ := h.st
  obtain ⟨vis, h3, h4⟩ := h.vi
  exact ⟨e _ _ h.ob, ⟨xs, e _ _ h1, h2.tps (Ex.tps e)⟩, e _ _ h.me, ⟨vis, e _ _ h3, h4⟩, h.sv⟩
/-- none of its own addresses is changed -/
theorem FrameAt.but {l : List Addr} (h : FrameAt C H p A vss pos m n) (e : But l H H') (t : Tps H H') (h1 : p ∉ l) (h2 : A.aS ∉ l) (h3 : A.aM ∉ l) (h4 : A.aV ∉ l) : FrameAt C H' p A vss pos m n := by
  obtain ⟨xs, g1, g2⟩ := h.st
  obtain ⟨vis, g3, g4⟩ := h.vi
  exact ⟨e _ _ h1 h.ob, ⟨xs, e _ _ h2 g1, g2.tps t⟩, e _ _ h3 h.me, ⟨vis, e _ _ h4 g3, g4⟩, h.sv⟩
theorem FrameAt.pM (h : FrameAt C H p A vss pos m n) : p ≠ A.aM := fun e => by have z := h.ob; rw [e, h.me] at z; cases z
theorem FrameAt.pS (h : FrameAt C H p A vss pos m n) : p ≠ A.aS := fun e => by obtain ⟨xs, g1, _⟩ := h.st; have z := h.ob; rw [e, g1] at z; cases z
theorem FrameAt.pV (h : FrameAt C H p A vss pos m n) : p ≠ A.aV := fun e => by obtain ⟨vis, g3, _⟩ := h.vi; have z := h.ob; rw [e, g3] at z; cases z
theorem FrameAt.MS (h : FrameAt C H p A vss pos m n) : A.aM ≠ A.aS := fun e => by obtain ⟨xs, g1, _⟩ := h.st; have z := h.me; rw [e, g1] at z; cases z
theorem FrameAt.MV (h : FrameAt C H p A vss pos m n) : A.aM ≠ A.aV := fun e => by obtain ⟨vis, g3, _⟩ := h.vi; have z := h.me; rw [e, g3] at z; cases z
/-- the memory is changed -/
theorem FrameAt.setM (h : FrameAt C H p A vss pos m n) (m' : M4) : FrameAt C (upd H A.aM (.dK m'.kv)) p A vss pos m' n := by
  obtain ⟨xs, g1, g2⟩ := h.st
  obtain ⟨vis, g3, g4⟩ := h.vi
  refine ⟨by rw [upd_ne h.pM]; exact h.ob, ⟨xs, by rw [upd_ne h.MS.symm]; exact g1, g2.tps ((Tps.refl H).upd fun ys z => ?_)⟩, upd_same, ⟨vis, by rw [upd_ne h.MV.symm]; exact g3, g4⟩, h.sv⟩
  rw [h.me] at z
  cases z
theorem FrameAt.setP (h : FrameAt C H p A vss pos m n) (k : Nat) : FrameAt C (upd H p (.ins C A.dx (fl A k))) p A vss k m n := by
  obtain ⟨xs, g1, g2⟩ := h.st
  obtain ⟨vis, g3, g4⟩ := h.vi
  refine ⟨upd_same, ⟨xs, by rw [upd_ne h.pS.symm]; exact g1, g2.tps ((Tps.refl H).upd fun ys z => ?_)⟩, by rw [upd_ne h.pM.symm]; exact h.me, ⟨vis, by rw [upd_ne h.pV.symm]; exact g3, g4⟩, h.sv⟩
  rw [h.ob] at z
  cases z
theorem FrameAt.setV (h : FrameAt C H p A vss pos m n) (vis : List V) : FrameAt C (upd H A.aV (.lst vis)) p A vss pos m vis.length := by
  obtain ⟨xs, g1, g2⟩ := h.st
  obtain ⟨vis', g3, g4⟩ := h.vi
  refine ⟨by rw [upd_ne h.pV]; exact h.ob, ⟨xs, by rw [upd_ne h.sv]; exact g1, g2.tps ((Tps.refl H).upd fun ys z => ?_)⟩, by rw [upd_ne h.MV]; exact h.me, ⟨vis, upd_same, rfl⟩, h.sv⟩
  rw [g3] at z
  cases z
theorem tps_own {l : List Addr} (e : But l H H') (hl : ∀ a ∈ l, ∀ xs, H a ≠ some (.tup xs)) : Tps H H' := fun a xs z => e a _ (fun y => hl a y xs z) z
theorem FrameAt.tps {H' : Hp} (h : FrameAt C H p A vss pos m n) (e : But (own p A) H H') : Tps H H' := tps_own e fun a ha xs z => by
  obtain ⟨vis', g3, g4⟩ := h.vi
  simp only [own, List.mem_cons, List.not_mem_nil, or_false] at ha
  rcases ha with rfl | rfl | rfl
  · rw [h.ob] at z; cases z
  · rw [h.me] at z; cases z
  · rw [g3] at z; cases z
end
/-! ### steps as data -/
def dV : PyData → V
  | .int i => .int i
  | .str x => .str x
  | .bool b => .bl b
  | _ => .non
def bare8 : V → Bool
  | .int _ => true
  | .str x => decide (x.length ≤ 8) && x.cps.toList.all fun c => decide (c < 128)
  | _ => false
theorem bare8_str {x : Str} (h : bare8 (.str x) = true) : x.length ≤ 8 ∧ ∀ c ∈ x.cps.toList, c < 128 := by
  have h' : (decide (x.length ≤ 8) && x.cps.toList.all fun c => decide (c < 128)) = true := h
  obtain ⟨h1, h2⟩ := Bool.and_eq_true_iff.mp h'
  exact ⟨of_decide_eq_true h1, fun c hc => of_decide_eq_true (List.all_eq_true.mp h2 c hc)⟩
theorem bare8_bare {v : V} (h : bare8 v = true) : bareV v = true := by
  cases v with
  | str x =>
    have z : x.length ≤ 8 := (bare8_str h).1
    exact decide_eq_true (by omega)
  | int i => rfl
  | _ => exact nomatch h
theorem bare8_flat {v : V} (h : bare8 v = true) : flatV v = true := by
  cases v <;> first | rfl | exact nomatch h
/-- values of a step -/
structure StepV (vs : List V) : Prop where
  bare : vs.all bare8 = true
  step : isStep (.tuple (vs.map flD)) = true
  len1 : 1 ≤ vs.length
  len4 : vs.length ≤ 4
theorem item_bare {d : PyData} {k : Str} (h : isItem d k = true) : bare8 (dV d) = true ∧ flD (dV d) = d := by
  have vr : ∀ {d : PyData}, isVar d = true → bare8 (dV d) = true ∧ flD (dV d) = d := fun {d} h => by
    cases d with
    | str x => rcases var_cases h with rfl | rfl | rfl | rfl <;> exact ⟨by decide +kernel, rfl⟩
    | _ => exact nomatch h
  have nm : ∀ {d : PyData}, isName d = true → bare8 (dV d) = true ∧ flD (dV d) = d := fun {d} h => by
    cases d with
    | str x =>
      have z : isNameS x = true := h
      unfold isNameS at z
      simp only [Bool.and_eq_true, decide_eq_true_eq] at z
      refine ⟨?_, rfl⟩
      show (decide (x.length ≤ 8) && x.cps.toList.all fun c => decide (c < 128)) = true
      rw [decide_eq_true (show x.length ≤ 8 by omega), Bool.true_and]
      refine List.all_eq_true.mpr fun c hc => ?_
      have y := List.all_eq_true.mp z.2 c hc
      unfold isLow at y
      simp only [Bool.and_eq_true, decide_eq_true_eq] at y
      exact decide_eq_true (by omega)
    | _ => exact nomatch h
  have nt : ∀ {d : PyData}, isInteger d = true → bare8 (dV d) = true ∧ flD (dV d) = d := fun {d} h => by
    cases d with
    | int i => exact ⟨rfl, rfl⟩
    | _ => exact nomatch h
  unfold isItem at h
  split at h
  · exact vr h
  split at h
  · exact nt h
  split at h
  · exact nt (Bool.and_eq_true_iff.mp h).1
  · exact nm h
theorem kind_bare {z : Str} {ks : List Str} (h : shapeOf z = some ks) : bare8 (.str z) = true ∧ ks.length ≤ 3 := by
  unfold shapeOf at h
  repeat' split at h
  all_goals first
    | (rename_i e; subst e; cases h; exact ⟨by decide +kernel, by decide⟩)
    | cases h
theorem step_bare {d : PyData} (h : isStep d = true) : ∃ vs, d = .tuple (vs.map flD) ∧ StepV vs := by
  obtain ⟨z, ds, rfl⟩ := step_form h
  obtain ⟨ks, hk⟩ : ∃ ks, shapeOf z = some ks := by
    cases hs : shapeOf z with
    | some ks => exact ⟨ks, rfl⟩
    | none =>
      have zz : isStep (.tuple (.str z :: ds)) = false := by
        show (match shapeOf z with | some ks => _ | none => false) = false
        rw [hs]
      rw [zz] at h
      cases h
  have h0 := h
  rw [isStep_eq hk] at h
  obtain ⟨h1, h2⟩ := Bool.and_eq_true_iff.mp h
  have hl : ds.length = ks.length := of_decide_eq_true h1
  obtain ⟨b1, b2⟩ := kind_bare hk
  have each : ∀ d ∈ ds, bare8 (dV d) = true ∧ flD (dV d) = d := fun d hd => by
    obtain ⟨i, hi, rfl⟩ := List.mem_iff_getElem.mp hd
    have z := List.all_eq_true.mp h2 (isItem (ds.getD i .none) (ks.getD i "")) (List.mem_map.mpr ⟨i, List.mem_range.mpr (by omega), rfl⟩)
    rw [List.getD_eq_getElem?_getD, List.getElem?_eq_getElem hi] at z
    exact item_bare z
  have em : (ds.map dV).map flD = ds := by
    rw [List.map_map]
    exact (List.map_congr_left (g := id) fun d hd => (each d hd).2).trans (List.map_id _)
  have e : PyData.tuple (.str z :: ds) = .tuple ((V.str z :: ds.map dV).map flD) := by
    rw [List.map_cons, em]
    rfl
  refine ⟨.str z :: ds.map dV, e, ?_, ?_, ?_, ?_⟩
  · rw [List.all_cons, b1, Bool.true_and, List.all_map]
    exact List.all_eq_true.mpr fun d hd => (each d hd).1
  · rw [← e]; exact h0
  · rw [List.length_cons]; omega
  · rw [List.length_cons, List.length_map]; omega
theorem dt_bare {H : Hp} : ∀ {xs vs : List V}, DtAll H xs (vs.map flD) → vs.all bare8 = true → xs = vs
  | [], [], _, _ => rfl
  | x :: xs, v :: vs, h, hb => by
    rw [List.all_cons, Bool.and_eq_true] at hb
    have h' : DtAll H (x :: xs) (flD v :: vs.map flD) := h
    cases h' with
    | cons h1 h2 =>
      have e2 := dt_bare h2 hb.2
      have e1 : x = v := by
        cases v with
        | int i => cases h1; rfl
        | str z => cases h1; rfl
        | _ => exact nomatch hb.1
      rw [e1, e2]
theorem steps_of {H : Hp} : ∀ {xs : List V} {ds : List PyData}, DtAll H xs ds → (∀ d ∈ ds, isStep d = true) → ∃ vss, ds = stepsD vss ∧ Steps H xs vss ∧ ∀ vs ∈ vss, StepV vs
  | _, _, .nil, _ => ⟨[], rfl, trivial, fun _ h => nomatch h⟩
  | _, _, .cons h1 h2, hs => by
    obtain ⟨vss, e, st, g⟩ := steps_of h2 fun d hd => hs d (List.mem_cons_of_mem _ hd)
    obtain ⟨vs, rfl, sv⟩ := step_bare (hs _ List.mem_cons_self)
    cases h1 with
    | @tup t zs _ ht hz =>
      have ez := dt_bare hz sv.bare
      subst ez
      exact ⟨zs :: vss, by rw [e]; rfl, ⟨⟨t, rfl, ht⟩, st⟩, fun v hv => by
        rcases List.mem_cons.mp hv with z | z
        · rw [z]; exact sv
        · exact g v z⟩
theorem due_none {ms : Option (List V)} {main : Bool} {d : PyData} (h : dueOf ms main d = none) : ∃ ds, d = .list ds ∧ ds.length ≤ 30 ∧ ∀ x ∈ ds, isStep x = true := by
  cases d with
  | list ds =>
    have h' : (if ds.length > 30 then some (-1) else (firstBad ms main ds).map fun i => (i : Int)) = none := h
    by_cases hl : ds.length > 30
    · rw [if_pos hl] at h'; cases h'
    · rw [if_neg hl] at h'
      refine ⟨ds, rfl, by omega, fun x hx => ?_⟩
      obtain ⟨i, hi, rfl⟩ := List.mem_iff_getElem.mp hx
      have hf : firstBad ms main ds = none := by
        cases hf : firstBad ms main ds with
        | none => rfl
        | some j => rw [hf] at h'; cases h'
      unfold firstBad at hf
      have hw := List.find?_eq_none.mp hf i (List.mem_range.mpr hi)
      have eg : ds.getD i .none = ds[i] := by rw [List.getD_eq_getElem?_getD, List.getElem?_eq_getElem hi]; rfl
      unfold wrongAt fitsIn isBefore at hw
      rw [eg] at hw
      cases hst : isStep ds[i] with
      | true => rfl
      | false => rw [hst] at hw; exact absurd rfl hw
  | _ => exact nomatch h
theorem due_good {ds : List PyData} (hl : ds.length ≤ 30) (h : ∀ (i : Nat) (x : PyData), ds[i]? = some x → isBefore x ((ds.length : Int) - i - 1) = true) : dueOf none false (.list ds) = none := by
  show (if ds.length > 30 then some (-1) else (firstBad none false ds).map fun i => (i : Int)) = none
  rw [if_neg (by omega), first_none fun j hj => ?_]
  · rfl
  · unfold wrongAt
    have eg : ds.getD j .none = ds[j] := by rw [List.getD_eq_getElem?_getD, List.getElem?_eq_getElem hj]; rfl
    rw [eg]
    have z := h j _ (List.getElem?_eq_getElem hj)
    show (!fitsIn none ds[j] ((ds.length : Int) - j - 1) || (false && isExport ds[j])) = false
    unfold fitsIn
    rw [z]
    rfl
end Cr
/-! frames: the methods -/
namespace Cr
open PySem PySem.Spec PyProof.Rows L2 Evl
abbrev sFInit : Stmt := inClass (topS 32) 0
abbrev sFLen : Stmt := inClass (topS 32) 2
abbrev sFNext : Stmt := inClass (topS 32) 3
abbrev sFIndex : Stmt := inClass (topS 32) 4
abbrev sFVars : Stmt := inClass (topS 32) 5
abbrev sFOver : Stmt := inClass (topS 32) 6
abbrev sFMove : Stmt := inClass (topS 32) 7
abbrev sFRun : Stmt := inClass (topS 32) 8
abbrev nFInit : List Str := ["self", "program", "variable"]
abbrev nFRun : List Str := ["self", "step", "kind", "variable", "item", "length"]
theorem scFInit : FnScope nFInit ["self", "program"] (defScope sFInit) := ⟨rfl, rfl, rfl, by decide +kernel, rfl, by decide +kernel, by decide +kernel⟩
theorem scFLen : FnScope ["self"] ["self"] (defScope sFLen) := ⟨rfl, rfl, rfl, by decide +kernel, rfl, by decide +kernel, by decide +kernel⟩
theorem scFNext : FnScope ["self"] ["self"] (defScope sFNext) := ⟨rfl, rfl, rfl, by decide +kernel, rfl, by decide +kernel, by decide +kernel⟩
theorem scFIndex : FnScope ["self"] ["self"] (defScope sFIndex) := ⟨rfl, rfl, rfl, by decide +kernel, rfl, by decide +kernel, by decide +kernel⟩
theorem scFVars : FnScope ["self"] ["self"] (defScope sFVars) := ⟨rfl, rfl, rfl, by decide +kernel, rfl, by decide +kernel, by decide +kernel⟩
theorem scFOver : FnScope ["self"] ["self"] (defScope sFOver) := ⟨rfl, rfl, rfl, by decide +kernel, rfl, by decide +kernel, by decide +kernel⟩
theorem scFMove : FnScope ["self", "length"] ["self", "length"] (defScope sFMove) := ⟨rfl, rfl, rfl, by decide +kernel, rfl, by decide +kernel, by decide +kernel⟩
theorem scFRun : FnScope nFRun ["self"] (defScope sFRun) := ⟨rfl, rfl, rfl, by decide +kernel, rfl, by decide +kernel, by decide +kernel⟩
/-- what the top says of the class -/
structure FrC (K : PySem.W.Frag) (mg : Str → Option Value) (C : Addr) : Prop where
  cl : Cls K C
  nS : NoAttr K C "steps"
  nP : NoAttr K C "position"
  nM : NoAttr K C "memory"
  nV : NoAttr K C "visited"
  at_ : mg "Frame" = some (.ref C)
/-- a method as it is called -/
structure HasM (P : Program) (w : World) (K : PySem.W.Frag) (mg : Str → Option Value) (base : Heap) (CX : CXT) (k : Nat) (C : Addr) (m : Str) (ps : List Str) (sp : Sp) : Prop where
  ex : ∃ f fd, FnOk P w K mg base CX k f fd ps sp ∧ Binds K fd ps [] ∧ Meth K C m f
theorem HasM.up {P : Program} {w : World} {K : PySem.W.Frag} {mg : Str → Option Value} {base : Heap} {CX : CXT} {C : Addr} {m : Str} {ps : List Str} {sp : Sp} {j k : Nat} (h : HasM P w K mg base CX j C m ps sp) (le : j ≤ k) : HasM P w K mg base CX k C m ps sp := by
  obtain ⟨f, fd, G, b, kp⟩ := h.ex
  exact ⟨⟨f, fd, fnUp G le, b, kp⟩⟩
/-- one that only looks: the answer by the frame -/
def spLook (C : Addr) (ans : List (List V) → Nat → M4 → Nat → V) : Sp := fun vs H Q _ => ∃ (p : Addr) (A : FrA) (vss : List (List V)) (pos : Nat) (m : M4) (n : Nat), vs = [.ref p] ∧ FrameAt C H p A vss pos m n ∧ (vss.length ≤ 1000 ∧ n ≤ 1000) ∧ ∀ H', Ex H H' → Q (ans vss pos m n) H'
def spNext (C : Addr) : Sp := fun vs H Q _ => ∃ (p : Addr) (A : FrA) (vss : List (List V)) (pos : Nat) (m : M4) (n : Nat), vs = [.ref p] ∧ FrameAt C H p A vss pos m n ∧ (vss.length ≤ 1000 ∧ n ≤ 1000) ∧ pos ≤ vss.length ∧
  ∀ v H', Ex H H' → (v = .non ∧ pos = vss.length ∨ ∃ t us, v = .ref t ∧ vss[pos]? = some us ∧ H' t = some (.tup us)) → Q v H'
def spVars (C : Addr) : Sp := fun vs H Q _ => ∃ (p : Addr) (A : FrA) (vss : List (List V)) (pos : Nat) (m : M4) (n : Nat), vs = [.ref p] ∧ FrameAt C H p A vss pos m n ∧ ∀ d H', H d = none → Ex H H' → H' d = some (.dK m.kv) → Q (.ref d) H'
def spMove (C : Addr) : Sp := fun vs H Q _ => ∃ (p : Addr) (A : FrA) (vss : List (List V)) (pos : Nat) (m : M4) (n : Nat) (l : Nat), vs = [.ref p, .int (l : Int)] ∧ FrameAt C H p A vss pos m n ∧ n ≤ 1000 ∧ ∀ H', FrameAt C H' p A vss (pos + l) m (n + 1) → But (own p A) H H' → Q .non H'
section
variable {K : PySem.W.Frag} {σ : L2.St} {H : Hp} {te td ty : TE} {v : V}
theorem q_asgAny {i : Nat} {D : Ends} {tz : TS} (h : te σ H fun v H1 => tz D (σ.set i (some v)) H1) : tSeq (tAsg te (gName i)) tz D σ H := h
theorem q_dropAny {D : Ends} {tz : TS} (h : te σ H fun _ H1 => tz D σ H1) : tSeq (tDrop te) tz D σ H := h
theorem ev_fld {p C dx : Addr} {fs : List (Str × V)} {f : Str} (he : Ev te σ H (.ref p)) (h : H p = some (.ins C dx fs)) (cl : Cls K C) (n : NoAttr K C f) (l : fs.lookup f = some v) : Ev (tFld K te f) σ H v := fun H1 e Q q =>
  he H1 e _ fun H2 e2 => ⟨p, C, dx, fs, v, rfl, (e.trans e2) _ _ h, cl, n, l, q H2 e2⟩
theorem ev_dget {a : Addr} {kvs : List (Key × V)} {x : Str} (hd : Ev td σ H (.ref a)) (hy : Ev ty σ H (.str x)) (h : H a = some (.dK kvs)) (hv : valV kvs (.inr x) = some v) : Ev (tDGet td ty) σ H v := fun H1 e Q q =>
  hd H1 e _ fun H2 e2 => hy H2 (e.trans e2) _ fun H3 e3 => ⟨a, v, rfl, by
    have z := DGet.k (k := .inr x) (((e.trans e2).trans e3) _ _ h)
    rw [hv] at z
    exact z, q H3 (e2.trans e3)⟩
end
section
variable {P : Program} {w : World} {K : PySem.W.Frag} {mg : Str → Option Value} {base : Heap}
theorem ok_over {f C : Addr} {fd : FuncData} {k : Nat} (F : Fun K "is_over" "Frame.is_over" sFOver f fd) (B : Blt mg) (T : FrC K mg C) : FnOk P w K mg base CX0 (k + 1) f fd ["self"] (spLook C fun vss pos _ _ => .bl (decide (pos = vss.length))) := by
  refine F.ok scFOver (fun vs H Q E h => by obtain ⟨_, _, _, _, _, _, rfl, _⟩ := h; rfl) (fun cdv A outer s H vs Q E hr h => ?_)
  obtain ⟨p, A', vss, pos, m, n, rfl, fr, _, q⟩ := h
  refine ⟨_, pss_one (ps_ret (pe_cmpR op_eq (pe_fld (pv 0) rfl) (pe_callB call_len_seq (by rfl) B.len bLen (pa_cons (pe_fld (pv 0) rfl) pa_nil)) (nomark _))), ?_⟩
  obtain ⟨xs, g1, g2⟩ := fr.st
  refine s_ret (ev_is (ev_op (ev_fld (ev_var rfl) fr.ob T.cl T.nP (fl_pos _ _)) (ev_cb (ea_cons (ev_fld (ev_var rfl) fr.ob T.cl T.nS (fl_steps _ _)) ea_nil) (rc_lenL (sq_of g1))) (rv_eq rfl)) ?_) q
  rw [g2.length]
  congr 1
  exact decide_eq_decide.mpr ⟨fun e => by have := V.int.inj e; omega, fun e => by rw [e]⟩
theorem ok_index {f C : Addr} {fd : FuncData} {k : Nat} (F : Fun K "next_index" "Frame.next_index" sFIndex f fd) (T : FrC K mg C) : FnOk P w K mg base CX0 (k + 1) f fd ["self"] (spLook C fun _ pos _ _ => .int (pos : Int)) := by
  refine F.ok scFIndex (fun vs H Q E h => by obtain ⟨_, _, _, _, _, _, rfl, _⟩ := h; rfl) (fun cdv A outer s H vs Q E hr h => ?_)
  obtain ⟨p, A', vss, pos, m, n, rfl, fr, _, q⟩ := h
  refine ⟨_, pss_one (ps_ret (pe_fld (pv 0) rfl)), ?_⟩
  exact s_ret (ev_fld (ev_var rfl) fr.ob T.cl T.nP (fl_pos _ _)) q
theorem ok_flen {f C : Addr} {fd : FuncData} {k : Nat} (F : Fun K "__len__" "Frame.__len__" sFLen f fd) (B : Blt mg) (T : FrC K mg C) : FnOk P w K mg base CX0 (k + 1) f fd ["self"] (spLook C fun _ _ _ n => .int (n : Int)) := by
  refine F.ok scFLen (fun vs H Q E h => by obtain ⟨_, _, _, _, _, _, rfl, _⟩ := h; rfl) (fun cdv A outer s H vs Q E hr h => ?_)
  obtain ⟨p, A', vss, pos, m, n, rfl, fr, _, q⟩ := h
  refine ⟨_, pss_one (ps_ret (pe_callB call_len_seq (by rfl) B.len bLen (pa_cons (pe_fld (pv 0) rfl) pa_nil))), ?_⟩
  obtain ⟨vis, g1, g2⟩ := fr.vi
  exact s_ret (ev_is (ev_cb (ea_cons (ev_fld (ev_var rfl) fr.ob T.cl T.nV (fl_vis _ _)) ea_nil) (rc_lenL (sq_of g1))) (by rw [g2])) q
theorem ok_next {f C : Addr} {fd : FuncData} {k : Nat} (F : Fun K "next_step" "Frame.next_step" sFNext f fd) (T : FrC K mg C) (h1 : HasM P w K mg base CX0 k C "is_over" ["self"] (spLook C fun vss pos _ _ => .bl (decide (pos = vss.length)))) :
    FnOk P w K mg base CX0 (k + 1) f fd ["self"] (spNext C) := by
  obtain ⟨f1, d1, G1, b1, m1⟩ := h1.ex
  refine F.ok scFNext (fun vs H Q E h => by obtain ⟨_, _, _, _, _, _, rfl, _⟩ := h; rfl) (fun cdv A outer s H vs Q E hr h => ?_)
  obtain ⟨p, A', vss, pos, m, n, rfl, fr, few, hp, q⟩ := h
  refine ⟨_, pss_one (ps_ret (pe_ifExp (pt_val (pe_meth0 (pv 0) T.cl m1 G1 hr b1 .nil pass0)) pe_non (pe_ix ix_list (pe_fld (pv 0) rfl) (pe_fld (pv 0) rfl) (fun _ _ => rfl)))), ?_⟩
  refine ⟨.ref p, rfl, p, A'.dx, _, rfl, fr.ob, by rfl, p, A', vss, pos, m, n, rfl, fr, few, fun H1 e1 => ⟨_, rfl, ?_⟩⟩
  by_cases hpl : pos = vss.length
  · rw [decide_eq_true hpl]
    exact q .non H1 e1 (.inl ⟨rfl, hpl⟩)
  · rw [decide_eq_false hpl]
    have fr1 := fr.ex e1
    obtain ⟨xs, g1, g2⟩ := fr1.st
    have hlt : pos < vss.length := by omega
    obtain ⟨t, ht, hT⟩ := g2.get (List.getElem?_eq_getElem hlt)
    exact ev_op (ev_fld (ev_var rfl) fr1.ob T.cl T.nS (fl_steps _ _)) (ev_fld (ev_var rfl) fr1.ob T.cl T.nP (fl_pos _ _)) (rv_ixL (sq_of g1) (atI_nat ht)) H1 (Ex.refl H1) _ fun H2 e2 => q _ H2 (e1.trans e2) (.inr ⟨t, vss[pos], rfl, List.getElem?_eq_getElem hlt, e2 _ _ hT⟩)
theorem ok_vars {f C : Addr} {fd : FuncData} {k : Nat} (F : Fun K "variables" "Frame.variables" sFVars f fd) (B : Blt mg) (T : FrC K mg C) : FnOk P w K mg base CX0 (k + 1) f fd ["self"] (spVars C) := by
  refine F.ok scFVars (fun vs H Q E h => by obtain ⟨_, _, _, _, _, _, rfl, _⟩ := h; rfl) (fun cdv A outer s H vs Q E hr h => ?_)
  obtain ⟨p, A', vss, pos, m, n, rfl, fr, q⟩ := h
  refine ⟨_, pss_one (ps_ret (pe_callTy call_dictD (by rfl) B.dict bDict (pa_cons (pe_fld (pv 0) rfl) pa_nil))), ?_⟩
  exact ev_fld (ev_var rfl) fr.ob T.cl T.nM (fl_mem _ _) H (Ex.refl H) _ fun H1 e1 => ⟨A'.aM, m.kv, rfl, .inl (e1 _ _ fr.me), fun d hd => q d _ (fresh_back e1 hd) (e1.trans (Ex.new hd)) upd_same⟩
theorem ok_move {f C : Addr} {fd : FuncData} {k : Nat} (F : Fun K "move" "Frame.move" sFMove f fd) (T : FrC K mg C) : FnOk P w K mg base CX0 (k + 1) f fd ["self", "length"] (spMove C) := by
  refine F.ok scFMove (fun vs H Q E h => by obtain ⟨_, _, _, _, _, _, _, rfl, _⟩ := h; rfl) (fun cdv A outer s H vs Q E hr h => ?_)
  obtain ⟨p, A', vss, pos, m, n, l, rfl, fr, few, q⟩ := h
  refine ⟨_, pss_cons (ps_expr (pe_bm PySem.F.plainAttrs_list PySem.F.slot_list_append PySem.F.type_list_append mt_append (pe_fld (pv 0) rfl) (pa_cons (pe_fld (pv 0) rfl) pa_nil))) (pss_one (ps_fldaug (pv 0) (pv 1) in_add)), ?_⟩
  obtain ⟨vis, g1, g2⟩ := fr.vi
  refine q_app g1 (ev_fld (ev_var rfl) fr.ob T.cl T.nV (fl_vis _ _)) (ev_fld (ev_var rfl) fr.ob T.cl T.nP (fl_pos _ _)) (by omega) fun H1 e1 => ?_
  have fr2 := (fr.ex e1).setV (vis ++ [.int (pos : Int)])
  refine ⟨.ref p, rfl, p, C, A'.dx, _, .int (pos : Int), rfl, fr2.ob, T.cl, T.nP, fl_pos _ _, _, rfl, (pos : Int), (l : Int), rfl, rfl, _, _, fr2.ob, by show 4 < 1000; decide, ?_⟩
  have e0 : ((pos : Int) + (l : Int)) = ((pos + l : Nat) : Int) := by omega
  rw [e0, fl_put]
  have fr3 := fr2.setP (pos + l)
  have en : (vis ++ [V.int (pos : Int)]).length = n + 1 := by rw [List.length_append, g2]; rfl
  rw [en] at fr3
  exact q _ fr3 (((But.of e1).upd (by simp [own])).upd (by simp [own]))
end
end Cr
/-! frames: the making, the plain steps -/
namespace Cr
open PySem PySem.Spec PyProof.Rows L2 Evl
/-- Frame(program) -/
def spFrI (C CE : Addr) : Sp := fun vs H Q E => ∃ (p dx : Addr) (v : V) (d : PyData), vs = [.ref p, v] ∧ H p = some (.ins C dx []) ∧ Dt H v d ∧ sm d = true ∧
  (∀ vss A H', d = .list (stepsD vss) → (∀ vs ∈ vss, StepV vs) → vss.length ≤ 30 → dueOf none false d = none → FrameAt C H' p A vss 0 .zero 0 → H A.aS = none → H A.aM = none → H A.aV = none → But [p] H H' → Q .non H') ∧
  ∀ i, dueOf none false d = some i → ∀ dx H', H dx = none → Ex H H' → H' dx = some (.xd [("position", .int i)]) → E (.ref CE) (some dx) H'
theorem stepV_bare {vs : List V} (h : StepV vs) : vs.all bareV = true ∧ 1 ≤ vs.length ∧ vs.length ≤ 10 :=
  ⟨List.all_eq_true.mpr fun v hv => bare8_bare (List.all_eq_true.mp h.bare v hv), h.len1, Nat.le_trans h.len4 (by decide)⟩
theorem stepV_flat {vs : List V} (h : StepV vs) : vs.all flatV = true := List.all_eq_true.mpr fun v hv => bare8_flat (List.all_eq_true.mp h.bare v hv)
theorem smAll_bare : ∀ {vs : List V}, vs.all bare8 = true → smAll (vs.map flD) = true
  | [], _ => rfl
  | v :: r, h => by
    rw [List.all_cons, Bool.and_eq_true] at h
    rw [List.map_cons, smAll, smAll_bare h.2, Bool.and_true]
    cases v with
    | int i => rfl
    | str x =>
      have z : x.length ≤ 8 := (bare8_str h.1).1
      show sm (.str x) = true
      rw [sm]
      exact decide_eq_true (by omega)
    | _ => exact nomatch h.1
theorem stepV_sm {vs : List V} (h : StepV vs) : sm (.tuple (vs.map flD)) = true := by
  rw [sm, smAll_bare h.bare, Bool.and_true]
  have := h.len4
  exact decide_eq_true (by rw [List.length_map]; omega)
section
variable {P : Program} {w : World} {K : PySem.W.Frag} {mg : Str → Option Value} {base : Heap}
theorem zero_dict {σ : L2.St} {H : Hp} {aV : Addr} {Q : VK} (tV : KTup K aV (vars4.map V.str)) (hσ : ∀ x, wipe ((wipe σ [2]).set 2 (some x)) [2] = wipe σ [2]) (hz : ∀ x, ((wipe σ [2]).set 2 (some x))[2]? = some (some x))
    (q : ∀ D H', H D = none → Ex H H' → H' D = some (.dK M4.zero.kv) → Q (.ref D) H') : tDc (iTup K (tC (.ref aV))) (gName 2) tYes (tVar 2) (tC (.int 0)) [2] σ H Q := by
  refine ⟨aV, rfl, ⟨_, tV.sq⟩, fun D hD => dc_tup (K := K) (a := aV) (xs := vars4.map V.str) (fun i H' => H' D = some (.dK (M4.zero.kv.take i)) ∧ Ex H H') ⟨upd_same, Ex.new hD⟩ (fun i H' _ _ => tV.sq) (fun i x H' hi hP => ?_) (fun H' hP => q D H' hD hP.2 hP.1)⟩
  obtain ⟨h1, e⟩ := hP
  refine ⟨hσ x, ?_⟩
  refine ⟨x, hz x, ?_⟩
  have i4 : i = 0 ∨ i = 1 ∨ i = 2 ∨ i = 3 := by
    have := (List.getElem?_eq_some_iff.mp hi).1
    have e4 : (vars4.map V.str).length = 4 := rfl
    omega
  rcases i4 with rfl | rfl | rfl | rfl
  · cases hi; exact ⟨_, .inr "a", rfl, h1, by show 0 < sizeLine; decide, upd_same, Ex.mut e hD⟩
  · cases hi; exact ⟨_, .inr "b", rfl, h1, by show 1 < sizeLine; decide, upd_same, Ex.mut e hD⟩
  · cases hi; exact ⟨_, .inr "c", rfl, h1, by show 2 < sizeLine; decide, upd_same, Ex.mut e hD⟩
  · cases hi; exact ⟨_, .inr "d", rfl, h1, by show 3 < sizeLine; decide, upd_same, Ex.mut e hD⟩
theorem s_zeroF {σ : L2.St} {H : Hp} {aV : Addr} {f : Str} {D : Ends} {tz : TS} (tV : KTup K aV (vars4.map V.str)) (hσ : ∀ x, wipe ((wipe σ [2]).set 2 (some x)) [2] = wipe σ [2]) (hz : ∀ x, ((wipe σ [2]).set 2 (some x))[2]? = some (some x))
    (q : ∀ d H', H d = none → Ex H H' → H' d = some (.dK M4.zero.kv) → tVar 0 σ H' fun x H2 => ∃ a C dx fs, x = .ref a ∧ H2 a = some (.ins C dx fs) ∧ Cls K C ∧ NoAttr K C f ∧ fs.length < 1000 ∧ tz D σ (upd H2 a (.ins C dx (putF f (.ref d) fs)))) :
    tSeq (sFld K (tVar 0) (tDc (iTup K (tC (.ref aV))) (gName 2) tYes (tVar 2) (tC (.int 0)) [2]) f) tz D σ H := by
  unfold tSeq sFld
  exact zero_dict tV hσ hz q
theorem ok_finit {f C CE aV : Addr} {fd : FuncData} {k : Nat} (F : Fun K "__init__" "Frame.__init__" sFInit f fd) (B : Blt mg) (T : FrC K mg C) (gV : mg "VARIABLES" = some (.ref aV)) (tV : KTup K aV (vars4.map V.str)) (h1 : HasC P w K mg base k CE) (h2 : HasO P w K mg base k "bare_program" ["program"] spBareP) :
    FnOk P w K mg base (L2.CX P w) (k + 1) f fd ["self", "program"] (spFrI C CE) := by
  obtain ⟨f1, d1, G1, ⟨ds1, vd1, b1⟩, _, k1, g1⟩ := h1.ex
  obtain ⟨f2, d2, G2, b2, k2, g2⟩ := h2.ex
  refine F.okX scFInit (fun vs H Q E h => by obtain ⟨_, _, _, _, rfl, _⟩ := h; rfl) (fun cdv A outer s H vs Q E hr h => ?_)
  obtain ⟨p, dx, v, d, rfl, hp, hd, hs, q, qe⟩ := h
  refine ⟨_, pss_cons (ps_expr (pe_call (E := E) G1 hr (by rfl) g1 k1 b1 vd1 (passes_call (takes_of rfl rfl rfl rfl) fun _ _ _ _ h => h) (pa_cons (pv 1) pa_nil)))
    (pss_cons (ps_fld (pv 0) (pe_call (E := E0) G2 hr (by rfl) g2 k2 b2 .nil pass0 (pa_cons (pv 1) pa_nil)) rfl)
    (pss_cons (ps_fld (pv 0) pe_int rfl)
    (pss_cons (ps_fld (pv 0) (pe_dc (own := [("variable", 2)]) (g := gName 2) (tt := tYes) (tk := tVar 2) (tv := tC (.int 0)) rfl scFInit.nd (pi_tup (pe_glob (v := .ref aV) (by rfl) gV rfl)) (blkOk_by (own := [("variable", 2)]) (N := nFInit) (sc := defScope sFInit) (by decide +kernel))
        (fun _ _ _ _ _ => pg_name (i := 2) scFInit.nd rfl (Or.inl rfl)) (fun _ _ _ _ _ => pts_nil) (fun _ _ _ _ _ => pv 2) (fun _ _ _ _ _ => pe_int)) rfl)
    (pss_one (ps_fld (pv 0) (pe_lst pa_nil) rfl))))), ?_⟩
  refine ⟨v, rfl, v, d, false, rfl, hd, hs, fun hn H1 e1 => ?_, qe⟩
  obtain ⟨ds, rfl, h30, hst⟩ := due_none hn
  obtain ⟨a, xs, ds', rfl, e', hx, hds⟩ := list_form hd rfl
  cases e'
  obtain ⟨vss, rfl, hS, hV⟩ := steps_of hds hst
  have lv : vss.length ≤ 30 := by
    have := h30
    unfold stepsD at this
    rw [List.length_map] at this
    exact this
  refine ⟨.ref a, rfl, a, xs, vss, rfl, e1 _ _ hx, hS.tps (Ex.tps e1), by omega, fun vs hvs => stepV_bare (hV vs hvs), fun aS ys H2 zS e2 hS2 st2 => ?_⟩
  have hp2 : H2 p = some (.ins C dx []) := e2 _ _ (e1 _ _ hp)
  have pS : p ≠ aS := fun e => by rw [e, hS2] at hp2; cases hp2
  refine ⟨.ref p, rfl, p, C, dx, [], rfl, hp2, T.cl, T.nS, by show 0 < 1000; decide, ?_⟩
  refine ⟨.ref p, rfl, p, C, dx, _, rfl, upd_same, T.cl, T.nP, by show 1 < 1000; decide, ?_⟩
  refine s_zeroF (f := "memory") (σ := L2.start nFInit [.ref p, .ref a]) tV (fun _ => rfl) (fun _ => rfl) fun aM H3 zM e3 hM => ?_
  have hp3 : H3 p = some (.ins C dx [("steps", .ref aS), ("position", .int 0)]) := e3 _ _ upd_same
  have hS3 : H3 aS = some (.lst ys) := e3 _ _ (by rw [upd_ne pS.symm, upd_ne pS.symm]; exact hS2)
  have b3 : But [p] H H3 := fun c o n z => e3 _ _ (by
    have nc : c ≠ p := fun e => n (by rw [e]; exact List.mem_cons_self)
    rw [upd_ne nc, upd_ne nc]
    exact e2 _ _ (e1 _ _ z))
  have pM : p ≠ aM := fun e => by rw [e, hM] at hp3; cases hp3
  refine ⟨.ref p, rfl, p, C, dx, _, rfl, hp3, T.cl, T.nM, by show 2 < 1000; decide, ?_⟩
  refine ⟨Nat.zero_le _, fun aV' zV => ?_⟩
  have pV : p ≠ aV' := fun e => by rw [← e, upd_same] at zV; cases zV
  have nV : H3 aV' = none := by rw [upd_ne pV.symm] at zV; exact zV
  have SV : aS ≠ aV' := ne_of_none hS3 nV
  have MV : aM ≠ aV' := ne_of_none hM nV
  have MS : aM ≠ aS := fun e => by rw [e, hS3] at hM; cases hM
  refine ⟨.ref p, rfl, p, C, dx, _, rfl, by rw [upd_ne pV, upd_same], T.cl, T.nV, by show 3 < 1000; decide, ?_⟩
  have hne : ∀ {c : Addr} {o : HO}, H c = some o → c ≠ p → c ≠ aV' := fun z nc => ne_of_none (b3 _ _ (fun y => nc (List.mem_singleton.mp y)) z) nV
  have back : ∀ c, c ≠ p → H3 c = none → H c = none := fun c nc z => by
    cases hc : H c with
    | none => rfl
    | some o => rw [b3 c o (fun y => nc (List.mem_singleton.mp y)) hc] at z; cases z
  have backM : H aM = none := by
    cases hc : H aM with
    | none => rfl
    | some o =>
      have z := e2 _ _ (e1 _ _ hc)
      rw [upd_ne pM.symm, upd_ne pM.symm, z] at zM
      cases zM
  refine q vss ⟨dx, aS, aM, aV'⟩ _ rfl hV lv hn ⟨upd_same, ⟨ys, by rw [upd_ne pS.symm, upd_ne SV, upd_ne pS.symm]; exact hS3, ?_⟩, by rw [upd_ne pM.symm, upd_ne MV, upd_ne pM.symm]; exact hM, ⟨[], by rw [upd_ne pV.symm, upd_same], rfl⟩, SV⟩ (fresh_back e1 zS) backM (back _ pV.symm nV) (fun c o n z => ?_)
  · have t3 : Tps H2 H3 := fun c zs z => e3 _ _ (by
      have nc : c ≠ p := fun e => by rw [e, hp2] at z; cases z
      rw [upd_ne nc, upd_ne nc]
      exact z)
    refine (st2.tps t3).tps fun c zs z => ?_
    have nc : c ≠ p := fun e => by rw [e, hp3] at z; cases z
    have nv : c ≠ aV' := ne_of_none z nV
    rw [upd_ne nc, upd_ne nv, upd_ne nc]
    exact z
  · have nc : c ≠ p := fun e => n (by rw [e]; exact List.mem_cons_self)
    rw [upd_ne nc, upd_ne (hne z nc), upd_ne nc]
    exact b3 _ _ n z
end
end Cr
/-! frames: run_plain -/
namespace Cr
open PySem PySem.Spec PyProof.Rows L2 Evl
/-- how far a plain step goes, and the memory behind it -/
def goes (us : List V) (m : M4) : Nat :=
  match us with
  | [.str z, .str x, .int i] => if z = "skip" ∧ m.get x > 0 then 1 + i.toNat else 1
  | _ => 1
def memo (us : List V) (m : M4) : M4 :=
  match us with
  | [.str z, .str x, .int i] => if z = "set" then m.set x i else m
  | [.str _, .str x, .str y] => m.set x (m.get x + m.get y)
  | _ => m
theorem goes_eq (z x : Str) (i : Int) (m : M4) : goes [.str z, .str x, .int i] m = if z = "skip" ∧ m.get x > 0 then 1 + i.toNat else 1 := rfl
theorem memo_eq (z x : Str) (i : Int) (m : M4) : memo [.str z, .str x, .int i] m = if z = "set" then m.set x i else m := rfl
theorem memo_add (z x y : Str) (m : M4) : memo [.str z, .str x, .str y] m = m.set x (m.get x + m.get y) := rfl
inductive PlainV : List V → Prop
  | set {x : Str} {i : Int} (h : isVar (.str x) = true) : PlainV [.str "set", .str x, .int i]
  | add {x y : Str} (h : isVar (.str x) = true) (h' : isVar (.str y) = true) : PlainV [.str "add", .str x, .str y]
  | skip {x : Str} {i : Int} (h : isVar (.str x) = true) (h' : 1 ≤ i) : PlainV [.str "skip", .str x, .int i]
theorem ne_ss : ¬ (("skip" : Str) = "set") := by decide +kernel
theorem ne_st : ¬ (("set" : Str) = "skip") := by decide +kernel
theorem plain_kinds {z : Str} (h : (plain3.any fun y => y == z) = true) : z = "set" ∨ z = "add" ∨ z = "skip" := by
  simp only [plain3, List.any_cons, List.any_nil, Bool.or_false, Bool.or_eq_true, beq_iff_eq] at h
  rcases h with h | h | h
  · exact .inl h.symm
  · exact .inr (.inl h.symm)
  · exact .inr (.inr h.symm)
/-- a plain step by its values -/
theorem plain_of {us : List V} (h : StepV us) (hp : isPlain (.tuple (us.map flD)) = true) : PlainV us := by
  have hs := h.step
  have hb := h.bare
  unfold isPlain at hp
  rw [hs, Bool.true_and] at hp
  have str1 : ∀ {v : V}, isVar (flD v) = true → ∃ x, v = .str x := fun {v} h => by
    cases v with
    | str x => exact ⟨x, rfl⟩
    | _ => exact nomatch h
  have int1 : ∀ {v : V}, isInteger (flD v) = true → ∃ i, v = .int i := fun {v} h => by
    cases v with
    | int i => exact ⟨i, rfl⟩
    | _ => exact nomatch h
  cases us with
  | nil => exact nomatch hs
  | cons v0 us =>
    cases v0 with
    | str z =>
      have hp' : (plain3.any fun y => y == z) = true := hp
      have hs' : isStep (.tuple (.str z :: us.map flD)) = true := hs
      have two : ∀ {k1 k2 : Str}, shapeOf z = some [k1, k2] → ∃ a b, us = [a, b] ∧ isItem (flD a) k1 = true ∧ isItem (flD b) k2 = true := fun {k1 k2} e => by
        rw [isStep_eq e] at hs'
        obtain ⟨a1, a2⟩ := Bool.and_eq_true_iff.mp hs'
        have hl : (us.map flD).length = 2 := of_decide_eq_true a1
        rw [List.length_map] at hl
        match us, hl with
        | [a, b], _ =>
          rw [List.map_cons, List.map_cons, List.map_nil, items2] at a2
          obtain ⟨c1, c2⟩ := Bool.and_eq_true_iff.mp a2
          exact ⟨a, b, rfl, c1, c2⟩
      rcases plain_kinds hp' with rfl | rfl | rfl
      · obtain ⟨a, b, rfl, c1, c2⟩ := two sh_set
        rw [it_var] at c1
        rw [it_int] at c2
        obtain ⟨x, rfl⟩ := str1 c1
        obtain ⟨i, rfl⟩ := int1 c2
        exact .set c1
      · obtain ⟨a, b, rfl, c1, c2⟩ := two sh_add
        rw [it_var] at c1 c2
        obtain ⟨x, rfl⟩ := str1 c1
        obtain ⟨y, rfl⟩ := str1 c2
        exact .add c1 c2
      · obtain ⟨a, b, rfl, c1, c2⟩ := two sh_skip
        rw [it_var] at c1
        rw [it_len] at c2
        obtain ⟨c3, c4⟩ := Bool.and_eq_true_iff.mp c2
        obtain ⟨x, rfl⟩ := str1 c1
        obtain ⟨i, rfl⟩ := int1 c3
        exact .skip c1 (of_decide_eq_true c4)
    | _ =>
      rw [List.all_cons] at hb
      first
        | exact nomatch hs
        | exact nomatch hb
/-- what is next in the frame -/
def nextD (vss : List (List V)) (pos : Nat) : PyData :=
  match vss[pos]? with
  | some us => .tuple (us.map flD)
  | none => .none
def spRun (C CW : Addr) : Sp := fun vs H Q E => ∃ (p : Addr) (A : FrA) (vss : List (List V)) (pos : Nat) (m : M4) (n : Nat), vs = [.ref p] ∧ FrameAt C H p A vss pos m n ∧ (vss.length ≤ 900 ∧ n ≤ 900) ∧ pos ≤ vss.length ∧ (∀ us ∈ vss, StepV us) ∧
  (∀ us H', vss[pos]? = some us → PlainV us → FrameAt C H' p A vss (pos + goes us m) (memo us m) (n + 1) → But (own p A) H H' → Q .non H') ∧
  (isPlain (nextD vss pos) = false → ∀ dx H', H dx = none → Ex H H' → H' dx = some (.xd [("position", .int (pos : Int))]) → E (.ref CW) (some dx) H')
section
variable {P : Program} {w : World} {K : PySem.W.Frag} {mg : Str → Option Value} {base : Heap}
theorem log_small {n : Nat} (h : n ≤ 900) : ((n : Nat) : Int).natAbs.log2 < 1000 := by
  rw [Int.natAbs_natCast]
  exact Nat.lt_of_le_of_lt (Nat.log2_le_self n) (by omega)
theorem ok_run {f C CW : Addr} {fd : FuncData} {k : Nat} (F : Fun K "run_plain" "Frame.run_plain" sFRun f fd) (T : FrC K mg C) (W : MkNum P w K mg base CW "WrongStep" "position" "position") (hk2 : 2 ≤ k)
    (h1 : HasM P w K mg base CX0 k C "next_step" ["self"] (spNext C)) (h2 : HasO P w K mg base k "is_plain" ["step"] (spD isPlain)) (h3 : HasM P w K mg base CX0 k C "move" ["self", "length"] (spMove C)) :
    FnOk P w K mg base (L2.CX P w) (k + 1) f fd ["self"] (spRun C CW) := by
  obtain ⟨f1, d1, G1, b1, m1⟩ := h1.ex
  obtain ⟨f2, d2, G2, b2, k2, g2⟩ := h2.ex
  obtain ⟨f3, d3, G3, b3, m3⟩ := h3.ex
  obtain ⟨fI, fdI, bb, Ox, FI, bI, iI, tI, gC⟩ := W.ex
  refine F.okX scFRun (fun vs H Q E h => by obtain ⟨_, _, _, _, _, _, rfl, _⟩ := h; rfl) (fun cdv A outer s H vs Q E hr h => ?_)
  obtain ⟨p, A', vss, pos, m, n, rfl, fr, few, hpos, hV, q, qe⟩ := h
  have hu := hu_of hr
  refine ⟨_, pss_cons (ps_set (i := 1) scFRun.nd rfl (.inl rfl) (pe_meth0 (E := E0) (pv 0) T.cl m1 G1 hr b1 .nil pass0))
    (pss_cons (ps_if (pt_not (pt_val (pe_call (E := E0) G2 hr (by rfl) g2 k2 b2 .nil pass0 (pa_cons (pv 1) pa_nil))))
      (pss_one (ps_raise rfl (takes_of rfl rfl rfl rfl) (pmkG Ox iI tI FI (hr.mono hk2) bI .nil pass0 (by rfl) gC (pa_cons (pe_fld (pv 0) rfl) pa_nil)))) pss_nil)
    (pss_cons (ps_asg (pv 1) (pg_tup rfl (pgs_cons (pg_name (i := 2) scFRun.nd rfl (.inl rfl)) (pgs_cons (pg_name (i := 3) scFRun.nd rfl (.inl rfl)) (pgs_cons (pg_name (i := 4) scFRun.nd rfl (.inl rfl)) pgs_nil)))))
    (pss_cons (ps_set (i := 5) scFRun.nd rfl (.inl rfl) pe_int)
    (pss_cut (ps_if (pt_cmpR op_eq (pv 2) pe_str (nomark _)) (pss_one (ps_dput hu (pe_fld (pv 0) rfl) (pv 3) (pv 4) rfl))
      (pss_one (ps_if (pt_cmpR op_eq (pv 2) pe_str (nomark _)) (pss_one (ps_daug hu (pe_fld (pv 0) rfl) (pv 3) (pe_dget hu (pe_fld (pv 0) rfl) (pv 4) (fun _ _ => rfl)) in_add (fun _ _ _ => rfl)))
        (pss_one (ps_if (pt_cmpR op_gt (pe_dget hu (pe_fld (pv 0) rfl) (pv 3) (fun _ _ => rfl)) pe_int (nomark _)) (pss_one (ps_aug (i := 5) scFRun.nd rfl (.inl rfl) (pv 4) ip_add)) pss_nil)))))
    (pss_one (ps_expr (pe_meth (E := E0) (pv 0) T.cl m3 G3 hr b3 .nil pass0 (pa_cons (pv 5) pa_nil)))))))), ?_⟩
  refine q_asgAny ⟨.ref p, rfl, p, A'.dx, _, rfl, fr.ob, by rfl, p, A', vss, pos, m, n, rfl, fr, ⟨by omega, by omega⟩, hpos, fun v H1 e1 hv => ?_⟩
  have fr1 := fr.ex e1
  have dt : Dt H1 v (nextD vss pos) ∧ sm (nextD vss pos) = true := by
    unfold nextD
    rcases hv with ⟨rfl, e⟩ | ⟨t, us, rfl, hus, hT⟩
    · rw [List.getElem?_eq_none (by omega)]
      exact ⟨.non, rfl⟩
    · rw [hus]
      have sv := hV us (List.mem_of_getElem? hus)
      exact ⟨.tup hT (dtAll_flat (stepV_flat sv)), stepV_sm sv⟩
  refine q_when (b := !isPlain (nextD vss pos)) (et_not (et_B (ev_call (ea_cons (ev_var rfl) ea_nil) (spv_D dt.1 dt.2)))) (fun hb H2 e2 => ?_) (fun hb H2 e2 => ?_)
  · rw [Bool.not_eq_true'] at hb
    have fr2 := fr1.ex e2
    exact mk_num ⟨.ref p, rfl, p, C, A'.dx, _, _, rfl, fr2.ob, T.cl, T.nP, fl_pos _ _, (pos : Int), rfl, log_small (by omega), fun dx hz => qe hb dx _ (fresh_back (e1.trans e2) hz) ((e1.trans e2).trans (Ex.new hz)) upd_same⟩
      (fun k ⟨x, hx, a, C, dx, fs, v, h1, h2, h3, h4, h5, r⟩ => ⟨x, hx, a, C, dx, fs, v, h1, h2, h3, h4, h5, k _ _ r⟩)
  · rw [Bool.not_eq_false'] at hb
    rcases hv with ⟨rfl, e⟩ | ⟨t, us, rfl, hus, hT⟩
    · unfold nextD at hb
      rw [List.getElem?_eq_none (by omega)] at hb
      exact nomatch hb
    have sv := hV us (List.mem_of_getElem? hus)
    have pl : PlainV us := plain_of sv (by unfold nextD at hb; rw [hus] at hb; exact hb)
    have fr2 := fr1.ex e2
    have hT2 := e2 _ _ hT
    have bt : But (own p A') H H2 := But.of (e1.trans e2)
    -- the end
    have fin : ∀ {σ : L2.St} {H3 : Hp} {l : Nat}, σ[0]? = some (some (.ref p)) → σ[5]? = some (some (.int (l : Int))) → l = goes us m → FrameAt C H3 p A' vss pos (memo us m) n → But (own p A') H H3 →
        tDrop (tMeth C "move" (spMove C) [] E0 (tVar 0) (tCons (tVar 5) tNil)) { nx := fun _ H' => Q .non H', rt := Q } σ H3 := fun {σ H3 l} s0 s5 el f3 b3 => by
      refine ⟨.ref p, s0, p, A'.dx, _, rfl, f3.ob, by rfl, .int (l : Int), s5, p, A', vss, pos, memo us m, n, l, rfl, f3, by omega, fun H4 f4 b4 => ?_⟩
      rw [el] at f4
      exact q us H4 hus pl f4 (b3.trans b4)
    cases pl with
    | @set x i hx =>
      refine ⟨.ref t, rfl, t, _, rfl, .inl (.inl hT2), rfl, .str "set", _, rfl, .str x, _, rfl, .int i, _, rfl, rfl, ?_⟩
      refine q_cut (M := fun σ H3 => σ[0]? = some (some (.ref p)) ∧ σ[5]? = some (some (.int ((1 : Nat) : Int))) ∧ FrameAt C H3 p A' vss pos (m.set x i) n ∧ But (own p A') H H3) ?_ (fun σ H3 ⟨s0, s5, f3, b3⟩ => fin s0 s5 (by rw [goes_eq, if_neg (fun z => ne_st z.1)]) (by rw [memo_eq, if_pos rfl]; exact f3) b3)
      refine s_if (b := true) (et_is (et_test (ev_op (ev_var rfl) ev_c (rv_eq rfl))) (decide_eq_true rfl)) (fun _ H3 e3 => ?_) (fun z => nomatch z)
      have f3 := fr2.ex e3
      refine ⟨.int i, rfl, .ref p, rfl, p, C, A'.dx, _, _, rfl, f3.ob, T.cl, T.nM, fl_mem _ _, .str x, rfl, A'.aM, _, rfl, DPut.k (k := .inr x) f3.me (by show 4 < sizeLine; decide), rfl, rfl, ?_, (bt.trans (But.of e3)).upd (by simp [own])⟩
      rw [m4_put _ hx]
      exact f3.setM _
    | @add x y hx hy =>
      refine ⟨.ref t, rfl, t, _, rfl, .inl (.inl hT2), rfl, .str "add", _, rfl, .str x, _, rfl, .str y, _, rfl, rfl, ?_⟩
      refine q_cut (M := fun σ H3 => σ[0]? = some (some (.ref p)) ∧ σ[5]? = some (some (.int ((1 : Nat) : Int))) ∧ FrameAt C H3 p A' vss pos (m.set x (m.get x + m.get y)) n ∧ But (own p A') H H3) ?_ (fun σ H3 ⟨s0, s5, f3, b3⟩ => fin s0 s5 rfl f3 b3)
      refine s_if (b := false) (et_is (et_test (ev_op (ev_var rfl) ev_c (rv_eq rfl))) (by decide +kernel)) (fun z => nomatch z) (fun _ H3 e3 => ?_)
      refine s_if (b := true) (et_is (et_test (ev_op (ev_var rfl) ev_c (rv_eq rfl))) (decide_eq_true rfl)) (fun _ H4 e4 => ?_) (fun z => nomatch z)
      have f4 := fr2.ex (e3.trans e4)
      have gx := DGet.k (k := .inr x) f4.me
      rw [m4_val _ hx] at gx
      refine ⟨.ref p, rfl, p, C, A'.dx, _, _, rfl, f4.ob, T.cl, T.nM, fl_mem _ _, .str x, rfl, A'.aM, .int (m.get x), rfl, gx, ?_⟩
      refine ev_dget (ev_fld (ev_var rfl) f4.ob T.cl T.nM (fl_mem _ _)) (ev_var rfl) f4.me (m4_val _ hy) _ (Ex.refl _) _ fun H5 e5 => ?_
      have f5 := f4.ex e5
      refine ⟨_, _, rfl, rfl, _, DPut.k (k := .inr x) f5.me (by show 4 < sizeLine; decide), rfl, rfl, ?_, (bt.trans (But.of ((e3.trans e4).trans e5))).upd (by simp [own])⟩
      rw [m4_put _ hx]
      exact f5.setM _
    | @skip x i hx hi =>
      refine ⟨.ref t, rfl, t, _, rfl, .inl (.inl hT2), rfl, .str "skip", _, rfl, .str x, _, rfl, .int i, _, rfl, rfl, ?_⟩
      refine q_cut (M := fun σ H3 => σ[0]? = some (some (.ref p)) ∧ σ[5]? = some (some (.int ((goes [.str "skip", .str x, .int i] m : Nat) : Int))) ∧ FrameAt C H3 p A' vss pos m n ∧ But (own p A') H H3) ?_ (fun σ H3 ⟨s0, s5, f3, b3⟩ => fin s0 s5 rfl (by rw [memo_eq, if_neg ne_ss]; exact f3) b3)
      refine s_if (b := false) (et_is (et_test (ev_op (ev_var rfl) ev_c (rv_eq rfl))) (by decide +kernel)) (fun z => nomatch z) (fun _ H3 e3 => ?_)
      refine s_if (b := false) (et_is (et_test (ev_op (ev_var rfl) ev_c (rv_eq rfl))) (by decide +kernel)) (fun z => nomatch z) (fun _ H4 e4 => ?_)
      have f4 := fr2.ex (e3.trans e4)
      refine s_when (b := decide (m.get x > 0)) (et_test (ev_op (ev_dget (ev_fld (ev_var rfl) f4.ob T.cl T.nM (fl_mem _ _)) (ev_var rfl) f4.me (m4_val _ hx)) ev_c rv_I0)) (fun hb H5 e5 => ?_) (fun hb H5 e5 => ?_)
      · refine s_aug (f := fun a b => a + b) (a := 1) (b := i) rfl (ev_var rfl) fun H6 e6 => ⟨rfl, ?_, f4.ex (e5.trans e6), bt.trans (But.of ((e3.trans e4).trans (e5.trans e6)))⟩
        have eg : ((goes [.str "skip", .str x, .int i] m : Nat) : Int) = 1 + i := by
          rw [goes_eq, if_pos ⟨rfl, of_decide_eq_true hb⟩]
          omega
        rw [eg]
        rfl
      · refine ⟨rfl, ?_, f4.ex e5, bt.trans (But.of ((e3.trans e4).trans e5))⟩
        have eg : goes [.str "skip", .str x, .int i] m = 1 := by
          rw [goes_eq, if_neg (fun z => of_decide_eq_false hb z.2)]
        rw [eg]
        rfl
end
end Cr
/-! the law's own draws -/
namespace Cr
open PySem PySem.Spec PyProof.Rows L2 Evl
abbrev sPot : Stmt := topS 34
abbrev sDraw : Stmt := topS 35
abbrev sChoice : Stmt := topS 36
abbrev nPot : List Str := ["_law_script", "_law_index", "_law_cell"]
abbrev nDraw : List Str := ["_law_pot_here", "_law_bound", "_law_digit"]
abbrev nChoice : List Str := ["_law_pot_here", "_law_options"]
theorem scPot : FnScope nPot ["_law_script", "_law_index"] (defScope sPot) := ⟨rfl, rfl, rfl, by decide +kernel, rfl, by decide +kernel, by decide +kernel⟩
theorem scDraw : FnScope nDraw ["_law_pot_here", "_law_bound"] (defScope sDraw) := ⟨rfl, rfl, rfl, by decide +kernel, rfl, by decide +kernel, by decide +kernel⟩
theorem scChoice : FnScope nChoice ["_law_pot_here", "_law_options"] (defScope sChoice) := ⟨rfl, rfl, rfl, by decide +kernel, rfl, by decide +kernel, by decide +kernel⟩
theorem bMax : bootBuiltins "max" = some (.builtin "max") := by decide +kernel
theorem bMin : bootBuiltins "min" = some (.builtin "min") := by decide +kernel
theorem bAbs : bootBuiltins "abs" = some (.builtin "abs") := by decide +kernel
theorem bDivmod : bootBuiltins "divmod" = some (.builtin "divmod") := by decide +kernel

/-- the pot at p -/
def Pot (H : Hp) (p : Addr) : Prop := ∃ x y : Int, H p = some (.lst [.int x, .int y]) ∧ 0 ≤ x ∧ 0 ≤ y ∧ y < 2147483648
/-- drawn from: all but the pot stands as it stood -/
structure Drew (p : Addr) (H H' : Hp) : Prop where
  ex : Ex (wo p H) (wo p H')
  pot : Pot H' p
theorem Drew.trans {p : Addr} {H H1 H2 : Hp} (a : Drew p H H1) (b : Drew p H1 H2) : Drew p H H2 := ⟨a.ex.trans b.ex, b.pot⟩
theorem Drew.refl {p : Addr} {H : Hp} (h : Pot H p) : Drew p H H := ⟨Ex.refl _, h⟩
theorem Pot.ex {p : Addr} {H H' : Hp} (h : Pot H p) (e : Ex H H') : Pot H' p := by
  obtain ⟨x, y, h, r⟩ := h
  exact ⟨x, y, e _ _ h, r⟩
theorem Drew.of {p : Addr} {H H' : Hp} (h : Pot H p) (e : Ex H H') : Drew p H H' := ⟨Ex.wo e, h.ex e⟩
theorem Drew.at {p a : Addr} {H H' : Hp} {o : HO} (d : Drew p H H') (n : a ≠ p) (h : H a = some o) : H' a = some o :=
  (wo_some (d.ex a o (by rw [wo_ne n]; exact h))).2
theorem Drew.set {p : Addr} {H : Hp} {o : HO} {x y : Int} (e : o = .lst [.int x, .int y]) (hx : 0 ≤ x) (hy : 0 ≤ y) (hy2 : y < 2147483648) : Drew p H (upd H p o) :=
  ⟨wo_upd (Ex.refl _), x, y, by rw [upd_same, e], hx, hy, hy2⟩
theorem fresh_drew {p q : Addr} {H H' : Hp} (d : Drew p H H') (hp : Pot H p) (h : H' q = none) : H q = none := by
  cases e : H q with
  | none => rfl
  | some o =>
    by_cases n : q = p
    · subst n
      obtain ⟨x, y, z, _⟩ := d.pot
      rw [z] at h
      cases h
    · rw [d.at n e] at h
      cases h

def spPot (K : PySem.W.Frag) : Sp := fun vs H Q _ => ∃ (a : Addr) (ns : List Int) (i : Nat), vs = [.ref a, .int (i : Int)] ∧ SqL K H a (ns.map V.int) ∧ i < 100 ∧ ∀ p H', H p = none → Ex H H' → Pot H' p → Q (.ref p) H'
def spDraw : Sp := fun vs H Q _ => ∃ (p : Addr) (b : Int), vs = [.ref p, .int b] ∧ 0 < b ∧ b.natAbs.log2 < 9000 ∧ Pot H p ∧ ∀ d H', 0 ≤ d → d < b → Drew p H H' → Q (.int d) H'
def spChoice : Sp := fun vs H Q _ => ∃ (p : Addr), Pot H p ∧
  ((∃ (o : Addr) (xs : List V), vs = [.ref p, .ref o] ∧ o ≠ p ∧ H o = some (.lst xs) ∧ 0 < xs.length ∧ xs.length ≤ 1000 ∧ ∀ v H', v ∈ xs → Drew p H H' → Q v H') ∨
   ∃ z : Str, vs = [.ref p, .str z] ∧ 0 < z.length ∧ z.length ≤ 1000 ∧ ∀ c H', c ∈ z.cps.toList → Drew p H H' → Q (.str ⟨#[c]⟩) H')
theorem pow3_pos {m : Int} : 0 < (2147483587 : Int) := by decide

section
variable {P : Program} {w : World} {K : PySem.W.Frag} {mg : Str → Option Value} {base : Heap}
theorem ok_pot {f : Addr} {fd : FuncData} {k : Nat} (F : Fun K "_law_pot" "_law_pot" sPot f fd) (B : Blt mg) : FnG P w K mg base CX0 (k + 1) f fd ["_law_script", "_law_index"] (spPot K) := by
  refine okG F scPot (fun vs H Q E h => by obtain ⟨_, _, _, rfl, _⟩ := h; rfl) (fun cdv A outer s H vs Q E hq hr h => ?_)
  obtain ⟨a, ns, i, rfl, hS, hi, q⟩ := h
  refine ⟨_, pss_cons (ps_set (i := 2) scPot.nd rfl (.inl rfl) pe_int)
    (pss_cut (ps_if (pt_cmpR op_lt (pv 1) (pe_callB call_len_seq (by rfl) B.len bLen (pa_cons (pv 0) pa_nil)) (nomark _))
      (pss_one (ps_set (i := 2) scPot.nd rfl (.inl rfl) (pe_callB call_abs (by rfl) B.abs bAbs (pa_cons (pe_ix ix_list (pv 0) (pv 1) (fun _ _ => rfl)) pa_nil)))) pss_nil)
    (pss_one (ps_ret (pe_lst (pa_cons (pe_callB (call_max2 rfl) (by rfl) B.max bMax (pa_cons pe_int (pa_cons (pe_op op_sub (pv 2) (pe_op op_pow pe_int pe_int)) pa_nil)))
      (pa_cons (pe_op op_add (pe_op op_mod (pe_op op_pow (pe_op op_add (pe_op op_add (pe_op op_mod (pv 2) pe_int) (pe_op op_mul pe_int (pv 1))) pe_int) pe_int) pe_int) pe_int) pa_nil)))))), ?_⟩
  refine q_asg ev_c fun H1 e1 => ?_
  refine q_cut (M := fun σ H2 => ∃ c : Int, 0 ≤ c ∧ σ = [some (.ref a), some (.int i), some (.int c)] ∧ Ex H H2) ?_ ?_
  · refine s_when (et_test (ev_op (ev_var rfl) (ev_cb (ea_cons (ev_var rfl) ea_nil) (rc_lenL (ex_l e1 hS))) rv_I0)) (fun hb H2 e2 => ?_) (fun hb H2 e2 => ⟨0, Int.le_refl 0, rfl, e1.trans e2⟩)
    have hlt := of_decide_eq_true hb
    rw [List.length_map] at hlt
    have hlt2 : i < ns.length := by omega
    refine s_asg (v := .int (if ns[i] < 0 then -ns[i] else ns[i])) (ev_cb (ea_cons (ev_op (ev_var rfl) (ev_var rfl) (rv_ixL (ex_l (e1.trans e2) hS) (atI_nat (j := i) (v := .int ns[i]) (by rw [List.getElem?_map, List.getElem?_eq_getElem hlt2]; rfl)))) ea_nil) (fun H3 _ Q q => ⟨_, rfl, q H3 (Ex.refl H3)⟩)) fun H3 e3 => ?_
    exact ⟨_, by split <;> omega, rfl, (e1.trans e2).trans e3⟩
  · rintro σ H2 ⟨c, hc, rfl, e2⟩
    have hm : 0 ≤ c % 2147483629 ∧ c % 2147483629 < 2147483629 := ⟨Int.emod_nonneg _ (by decide), Int.emod_lt_of_pos _ (by decide)⟩
    have hz : (c % 2147483629 + 1013 * (i : Int) + 7).natAbs < 2 ^ 64 := by omega
    have hx : ∀ y : Int, 0 ≤ y % 2147483587 ∧ y % 2147483587 < 2147483587 := fun y => ⟨Int.emod_nonneg _ (by decide), Int.emod_lt_of_pos _ (by decide)⟩
    have hx1 := hx ((c % 2147483629 + 1013 * (i : Int) + 7) ^ (3 : Int).toNat)
    refine s_retL (el_lst (ea_cons (ev_cb (ea_cons ev_c (ea_cons (ev_op (ev_var rfl) (ev_op ev_c ev_c (rv_I ⟨by decide, by decide, by decide⟩)) rv_I0) ea_nil)) (fun H3 _ Q q => ⟨_, _, rfl, q H3 (Ex.refl H3)⟩))
      (ea_cons (ev_op (ev_op (ev_op (ev_op (ev_op (ev_op (ev_var rfl) ev_c (rv_I (by show (0 : Int) < 2147483629; decide))) (ev_op ev_c (ev_var rfl) (rv_I (.inl ⟨by decide, by decide⟩))) rv_I0) ev_c rv_I0) ev_c (rv_I ⟨by decide, by decide, hz⟩)) ev_c (rv_I (by show (0 : Int) < 2147483587; decide))) ev_c rv_I0) ea_nil)) (by show 2 ≤ 100000; decide)) fun p H3 hp e3 h3 => ?_
    refine q p H3 (fresh_back e2 hp) (e2.trans e3) ⟨_, _, h3, ?_, ?_, ?_⟩
    · split <;> omega
    · omega
    · omega
end
end Cr
namespace Cr
open PySem PySem.Spec PyProof.Rows L2 Evl
/-- the law's helpers as they are called: the promise, how it binds, where it stands -/
structure Has (P : Program) (w : World) (K : PySem.W.Frag) (mg : Str → Option Value) (base : Heap) (k : Nat) (x : Str) (ps : List Str) (sp : Sp) : Prop where
  ex : ∃ f fd, FnG P w K mg base CX0 k f fd ps sp ∧ Binds K fd ps [] ∧ PySem.W.keepIn K (.ref f) = true ∧ mg x = some (.ref f)
theorem divp_small {i j : Int} (h : 0 < j) (hj : j.natAbs.log2 < 9000) : CDivP i j := by
  refine ⟨h, ?_⟩
  show (decide ((if j == 0 then 0 else j.natAbs.log2 / 30 + 1) > 300) && decide ((if i == 0 then 0 else i.natAbs.log2 / 30 + 1) > (if j == 0 then 0 else j.natAbs.log2 / 30 + 1) + 150)) = false
  rw [if_neg (show ¬ (j == 0) = true by simpa using (show j ≠ 0 by omega)), decide_eq_false (show ¬ j.natAbs.log2 / 30 + 1 > 300 by omega), Bool.false_and]
section
variable {P : Program} {w : World} {K : PySem.W.Frag} {mg : Str → Option Value} {base : Heap}
theorem ok_draw {f : Addr} {fd : FuncData} {k : Nat} (F : Fun K "_law_draw" "_law_draw" sDraw f fd) (B : Blt mg) : FnG P w K mg base CX0 (k + 1) f fd ["_law_pot_here", "_law_bound"] spDraw := by
  refine okG F scDraw (fun vs H Q E h => by obtain ⟨_, _, rfl, _⟩ := h; rfl) (fun cdv A outer s H vs Q E hq hr h => ?_)
  obtain ⟨p, b, rfl, hb, hb2, ⟨x, y, hp, hx, hy, hy2⟩, q⟩ := h
  refine ⟨_, pss_cons (ps_if (pt_cmpR op_gt (pe_ix ix_list (pv 0) pe_int (fun _ _ => rfl)) pe_int (nomark _))
      (pss_cons (ps_asg (pe_callB call_divmodW (by rfl) B.divmod bDivmod (pa_cons (pe_ix ix_list (pv 0) pe_int (fun _ _ => rfl)) (pa_cons (pv 1) pa_nil)))
          (pg_tup rfl (pgs_cons (pg_sub (pv 0) pe_int set_list) (pgs_cons (pg_name (i := 2) scDraw.nd rfl (.inl rfl)) pgs_nil))))
        (pss_one (ps_ret (pv 2)))) pss_nil)
    (pss_cons (ps_asg (pe_op op_mod (pe_op op_add (pe_op op_mul (pe_ix ix_list (pv 0) pe_int (fun _ _ => rfl)) pe_int) pe_int) pe_int) (pg_sub (pv 0) pe_int set_list))
    (pss_one (ps_ret (pe_op op_mod (pe_op op_fdiv (pe_op op_mod (pe_op op_mul (pe_ix ix_list (pv 0) pe_int (fun _ _ => rfl)) (pe_ix ix_list (pv 0) pe_int (fun _ _ => rfl))) pe_int) pe_int) (pv 1))))), ?_⟩
  have i0 : atI [V.int x, V.int y] 0 = some (.int x) := atI_nat (j := 0) rfl
  have i1 : ∀ z : Int, atI [V.int x, V.int z] 1 = some (.int z) := fun z => atI_nat (j := 1) rfl
  refine q_when (et_test (ev_op (ev_op (ev_var rfl) ev_c (rv_ixL (sq_of hp) i0)) ev_c rv_I0)) (fun hc H1 e1 => ?_) (fun hc H1 e1 => ?_)
  · -- the digits
    have hx1 : 0 < x := of_decide_eq_true hc
    have hp1 := e1 _ _ hp
    refine ev_op (ev_var rfl) ev_c (rv_ixL (K := K) (sq_of hp1) i0) H1 (Ex.refl H1) _ fun H2 e2 => ?_
    refine ⟨.int b, rfl, x, b, rfl, divp_small hb hb2, fun t ht => ?_⟩
    have tp : p ≠ t := ne_of_none (e2 _ _ hp1) ht
    refine ⟨t, [.int (x / b), .int (x % b)], rfl, .inl (.inl upd_same), rfl, .int (x / b), [.int (x % b)], rfl, .ref p, rfl, p, [.int x, .int y], 0, 0, rfl, rfl, ?_, rfl, .int (x % b), [], rfl, rfl, .int (x % b), rfl, ?_⟩
    · rw [upd_ne tp]
      exact e2 _ _ hp1
    · refine q (x % b) _ (Int.emod_nonneg _ (by omega)) (Int.emod_lt_of_pos _ hb) ?_
      refine Drew.trans (H1 := upd H2 t (.tup [.int (x / b), .int (x % b)])) (Drew.of ⟨x, y, hp, hx, hy, hy2⟩ ((e1.trans e2).trans (Ex.new ht))) ?_
      exact Drew.set rfl (Int.ediv_nonneg hx (by omega)) hy hy2
  · have hp1 := e1 _ _ hp
    have m1 : 0 ≤ (y * 48271 + 10037) % 2147483587 ∧ (y * 48271 + 10037) % 2147483587 < 2147483587 := ⟨Int.emod_nonneg _ (by decide), Int.emod_lt_of_pos _ (by decide)⟩
    generalize ez : (y * 48271 + 10037) % 2147483587 = z at m1
    refine ev_op (z := .int ((y * 48271 + 10037) % 2147483587)) (ev_op (ev_op (ev_op (ev_var rfl) ev_c (rv_ixL (K := K) (sq_of hp1) (i1 y))) ev_c (rv_I (.inl ⟨by omega, by omega⟩))) ev_c rv_I0) ev_c (rv_I (by show (0 : Int) < 2147483587; decide)) H1 (Ex.refl H1) _ fun H2 e2 => ?_
    rw [ez]
    refine ⟨.ref p, rfl, p, [.int x, .int y], 1, 1, rfl, rfl, e2 _ _ hp1, rfl, ?_⟩
    have dr : Drew p H (upd H2 p (.lst [.int x, .int z])) := Drew.trans (H1 := H2) (Drew.of ⟨x, y, hp, hx, hy, hy2⟩ (e1.trans e2)) (Drew.set rfl hx m1.1 (by omega))
    have hp3 : (upd H2 p (.lst [.int x, .int z])) p = some (.lst [.int x, .int z]) := upd_same
    have ix : Ev (tOp (rIxL K) (tVar 0) (tC (.int 1))) [some (.ref p), some (.int b), none] (upd H2 p (.lst [.int x, .int z])) (.int z) := ev_op (ev_var rfl) ev_c (rv_ixL (sq_of hp3) (i1 z))
    refine s_ret (ev_op (ev_op (ev_op (ev_op ix ix (rv_I (.inl ⟨by omega, by omega⟩))) ev_c (rv_I (by show (0 : Int) < 2147483563; decide))) ev_c (rv_I ⟨by decide, by decide⟩)) (ev_var rfl) (rv_I (C := fun _ j => 0 < j) hb)) fun H3 e3 => ?_
    exact q _ H3 (Int.emod_nonneg _ (by omega)) (Int.emod_lt_of_pos _ hb) (dr.trans (Drew.of dr.pot e3))

theorem ok_choice {f : Addr} {fd : FuncData} {k : Nat} (F : Fun K "_law_pick" "_law_pick" sChoice f fd) (B : Blt mg) (D : Has P w K mg base k "_law_draw" ["_law_pot_here", "_law_bound"] spDraw) :
    FnG P w K mg base CX0 (k + 1) f fd ["_law_pot_here", "_law_options"] spChoice := by
  obtain ⟨fD, fdD, GD, bD, kD, gD⟩ := D.ex
  refine okG F scChoice (fun vs H Q E h => by obtain ⟨_, _, h⟩ := h; rcases h with ⟨_, _, rfl, _⟩ | ⟨_, rfl, _⟩ <;> rfl) (fun cdv A outer s H vs Q E hq hr h => ?_)
  obtain ⟨p, pot, h⟩ := h
  refine ⟨_, pss_one (ps_ret (pe_ix ix_seq (pv 1) (callG GD hq hr (by rfl) gD kD bD .nil pass0 (pa_cons (pv 0) (pa_cons (pe_callB call_len (by rfl) B.len bLen (pa_cons (pv 1) pa_nil)) pa_nil))) (fun _ _ => rfl))), ?_⟩
  have small : ∀ n : Nat, 0 < n → n ≤ 1000 → ((n : Int)).natAbs.log2 < 9000 := fun n h1 h2 => by
    have : (n : Int).natAbs = n := Int.natAbs_natCast n
    rw [this]
    have := (Nat.log2_lt (k := 10) (by omega)).mpr (show n < 2 ^ 10 by omega)
    omega
  rcases h with ⟨o, xs, rfl, ne, ho, h1, h2, q⟩ | ⟨z, rfl, h1, h2, q⟩
  · refine ⟨.ref o, rfl, .ref p, rfl, .ref o, rfl, .ref o, xs.length, rfl, .inl ⟨xs, sq_of ho, rfl⟩, p, (xs.length : Int), rfl, by omega, small _ h1 h2, pot, fun d H1 d0 d1 dr => ?_⟩
    obtain ⟨j, rfl⟩ := Int.eq_ofNat_of_zero_le d0
    have hj : j < xs.length := by omega
    exact .inl ⟨o, xs, (j : Int), xs[j], rfl, rfl, sq_of (dr.at ne ho), atI_nat (List.getElem?_eq_getElem hj), q _ H1 (List.getElem_mem hj) dr⟩
  · refine ⟨.str z, rfl, .ref p, rfl, .str z, rfl, .str z, z.length, rfl, ⟨sz_of (by omega), rfl⟩, p, (z.length : Int), rfl, by omega, small _ h1 h2, pot, fun d H1 d0 d1 dr => ?_⟩
    obtain ⟨j, rfl⟩ := Int.eq_ofNat_of_zero_le d0
    have hj : j < z.cps.toList.length := by
      have : z.cps.toList.length = z.length := by simp [Str.length]
      omega
    exact .inr (.inr ⟨z, (j : Int), z.cps.toList[j], rfl, rfl, sz_of (by omega), atI_nat (List.getElem?_eq_getElem hj), q _ H1 (List.getElem_mem hj) dr⟩)

end
end Cr
/-! what the top has left, gathered -/
namespace Cr
open PySem PySem.Spec PyProof.Rows L2 Evl
/-- a def of the top, as the head tells it -/
def DefAt (K : PySem.W.Frag) (x : Str) (st : Stmt) : Prop := ∃ (f : Addr) (od an : Option Addr) (sl : Array (Option Value)) (oc kV dc pm cd ct : Value),
  PySem.W.nsIn K mainGlobals x = some (some (.ref f)) ∧ K.lookup f = some ⟨oc, od, .func (PySem.W.fnOf x x (defArgs st) (defBody st) (defScope st) .none kV dc pm an cd ct), sl⟩ ∧ PySem.W.codeIn K cd x = true ∧ PySem.W.keepIn K (.ref f) = true
theorem defAt {K : PySem.W.Frag} {x : Str} {st : Stmt} {f : Addr} {od an : Option Addr} {sl : Array (Option Value)} {oc kV dc pm cd ct : Value} (a : PySem.W.nsIn K mainGlobals x = some (some (.ref f)))
    (l : K.lookup f = some ⟨oc, od, .func (PySem.W.fnOf x x (defArgs st) (defBody st) (defScope st) .none kV dc pm an cd ct), sl⟩) (c : PySem.W.codeIn K cd x = true) (k : PySem.W.keepIn K (.ref f) = true) : DefAt K x st :=
  ⟨f, od, an, sl, oc, kV, dc, pm, cd, ct, a, l, c, k⟩
/-- the binding of so many parameters -/
def BindsAll (x : Str) (st : Stmt) (ps : List Str) : Prop := ∀ (kV doc pm : Value) (an : Option Addr) (cdv ct : Value) (us : List Value), us.length = ps.length → bindArgs (PySem.W.fnOf x x (defArgs st) (defBody st) (defScope st) .none kV doc pm an cdv ct) ⟨us, []⟩ = pure (ps.zip us)
theorem has_mk {P : Program} {w : World} {K : PySem.W.Frag} {mg : Str → Option Value} {base h : Heap} {x : Str} {st : Stmt} {ps : List Str} {sp : Sp} {k : Nat} (X : K.In h) (G : h.Ns mainGlobals mg) (D : DefAt K x st) (hb : BindsAll x st ps)
    (ok : ∀ f fd, Fun K x x st f fd → FnG P w K mg base CX0 k f fd ps sp) : Has P w K mg base k x ps sp := by
  obtain ⟨f, od, an, sl, oc, kV, dc, pm, cd, ct, a, l, c, kp⟩ := D
  have F := fun_mk (st := st) l c kp
  exact ⟨⟨f, _, ok f _ F, F.binds hb, kp, PySem.W.mg_of X G a⟩⟩
theorem hasO_mk {P : Program} {w : World} {K : PySem.W.Frag} {mg : Str → Option Value} {base h : Heap} {x : Str} {st : Stmt} {ps : List Str} {sp : Sp} {k : Nat} (X : K.In h) (G : h.Ns mainGlobals mg) (D : DefAt K x st) (hb : BindsAll x st ps)
    (ok : ∀ f fd, Fun K x x st f fd → FnOk P w K mg base CX0 k f fd ps sp) : HasO P w K mg base k x ps sp := by
  obtain ⟨f, od, an, sl, oc, kV, dc, pm, cd, ct, a, l, c, kp⟩ := D
  have F := fun_mk (st := st) l c kp
  exact ⟨⟨f, _, ok f _ F, F.binds hb, kp, PySem.W.mg_of X G a⟩⟩
theorem hasE_mk {P : Program} {w : World} {K : PySem.W.Frag} {mg : Str → Option Value} {base h : Heap} {x : Str} {st : Stmt} {ps : List Str} {sp : Sp} {k : Nat} (X : K.In h) (G : h.Ns mainGlobals mg) (D : DefAt K x st) (hb : BindsAll x st ps)
    (ok : ∀ f fd, Fun K x x st f fd → FnOk P w K mg base (L2.CX P w) k f fd ps sp) : HasE P w K mg base k x ps sp := by
  obtain ⟨f, od, an, sl, oc, kV, dc, pm, cd, ct, a, l, c, kp⟩ := D
  have F := fun_mk (st := st) l c kp
  exact ⟨⟨f, _, ok f _ F, F.binds hb, kp, PySem.W.mg_of X G a⟩⟩
theorem Has.up {P : Program} {w : World} {K : PySem.W.Frag} {mg : Str → Option Value} {base : Heap} {x : Str} {ps : List Str} {sp : Sp} {j k : Nat} (h : Has P w K mg base j x ps sp) (le : j ≤ k) : Has P w K mg base k x ps sp := by
  obtain ⟨f, fd, G, b, kp, g⟩ := h.ex
  exact ⟨⟨f, fd, G.up le, b, kp, g⟩⟩
theorem HasC.up {P : Program} {w : World} {K : PySem.W.Frag} {mg : Str → Option Value} {base : Heap} {C : Addr} {j k : Nat} (h : HasC P w K mg base j C) (le : j ≤ k) : HasC P w K mg base k C := by
  obtain ⟨f, fd, G, b, b2, kp, g⟩ := h.ex
  exact ⟨⟨f, fd, fnUp G le, b, b2, kp, g⟩⟩
/-! ### tuples and the table of the top -/
theorem ktupV {K : PySem.W.Frag} {a : Addr} {xs : List Str} {its : List Value} {dd : Option Addr} {sl : Array (Option Value)} {n : Nat} (l : K.lookup a = some ⟨.type "tuple", dd, .seq its.toArray n, sl⟩) (v : Vals (xs.map V.str) its) (hz : xs.length ≤ 10) : KTup K a (xs.map V.str) := by
  refine ⟨_, _, _, l, rfl, rfl, ?_, by simpa using v⟩
  have := v.length
  rw [List.length_map] at this
  rw [List.size_toArray, ← this]
  exact sz_of (by omega)
theorem ktup0 {K : PySem.W.Frag} {a : Addr} {dd : Option Addr} {sl : Array (Option Value)} {n : Nat} (l : K.lookup a = some ⟨.type "tuple", dd, .seq #[] n, sl⟩) : KTup K a (([] : List Str).map V.str) := ktupV (xs := ([] : List Str)) l .nil (by show 0 ≤ 10; decide)
theorem ktup1 {K : PySem.W.Frag} {a : Addr} {x1 : Str} {t1 : Tok} {dd : Option Addr} {sl : Array (Option Value)} {n : Nat} (l : K.lookup a = some ⟨.type "tuple", dd, .seq #[.str x1 t1] n, sl⟩) : KTup K a (([x1] : List Str).map V.str) := ktupV (xs := ([x1] : List Str)) l (.cons ⟨t1, rfl⟩ .nil) (by show 1 ≤ 10; decide)
theorem ktup2 {K : PySem.W.Frag} {a : Addr} {x1 x2 : Str} {t1 t2 : Tok} {dd : Option Addr} {sl : Array (Option Value)} {n : Nat} (l : K.lookup a = some ⟨.type "tuple", dd, .seq #[.str x1 t1, .str x2 t2] n, sl⟩) : KTup K a (([x1, x2] : List Str).map V.str) := ktupV (xs := ([x1, x2] : List Str)) l (.cons ⟨t1, rfl⟩ (.cons ⟨t2, rfl⟩ .nil)) (by show 2 ≤ 10; decide)
theorem ktup3 {K : PySem.W.Frag} {a : Addr} {x1 x2 x3 : Str} {t1 t2 t3 : Tok} {dd : Option Addr} {sl : Array (Option Value)} {n : Nat} (l : K.lookup a = some ⟨.type "tuple", dd, .seq #[.str x1 t1, .str x2 t2, .str x3 t3] n, sl⟩) : KTup K a (([x1, x2, x3] : List Str).map V.str) := ktupV (xs := ([x1, x2, x3] : List Str)) l (.cons ⟨t1, rfl⟩ (.cons ⟨t2, rfl⟩ (.cons ⟨t3, rfl⟩ .nil))) (by show 3 ≤ 10; decide)
theorem ktup4 {K : PySem.W.Frag} {a : Addr} {x1 x2 x3 x4 : Str} {t1 t2 t3 t4 : Tok} {dd : Option Addr} {sl : Array (Option Value)} {n : Nat} (l : K.lookup a = some ⟨.type "tuple", dd, .seq #[.str x1 t1, .str x2 t2, .str x3 t3, .str x4 t4] n, sl⟩) : KTup K a (([x1, x2, x3, x4] : List Str).map V.str) := ktupV (xs := ([x1, x2, x3, x4] : List Str)) l (.cons ⟨t1, rfl⟩ (.cons ⟨t2, rfl⟩ (.cons ⟨t3, rfl⟩ (.cons ⟨t4, rfl⟩ .nil)))) (by show 4 ≤ 10; decide)
theorem nsIn_dict {K : PySem.W.Frag} {d : Addr} {oc : Value} {od : Option Addr} {es : List DictEntry} {n : Nat} {sl : Array (Option Value)} {z : Str} (l : K.lookup d = some ⟨oc, od, .dict es.toArray n, sl⟩) (any : es.any (·.refKey) = false) :
    PySem.W.nsIn K d z = some ((es.find? (·.key.isStr z)).map (·.val)) := by
  unfold PySem.W.nsIn
  rw [l]
  show (match es.find? (·.key.isStr z) with | some e => some (some e.val) | none => if es.any (·.refKey) = true then none else some none) = _
  rw [any]
  cases es.find? (·.key.isStr z) <;> rfl
theorem find_str {z k : Str} {h : Int} {t : Tok} {v : Value} {r : List DictEntry} : (⟨h, .str k t, v⟩ :: r : List DictEntry).find? (·.key.isStr z) = if z = k then some ⟨h, .str k t, v⟩ else r.find? (·.key.isStr z) := by
  rw [List.find?_cons]
  by_cases e : z = k
  · subst e
    rw [if_pos rfl, show (Value.str z t).isStr z = true by simp [Value.isStr]]
  · rw [if_neg e, show (Value.str k t).isStr z = false by simp [Value.isStr]; exact fun q => e q.symm]
theorem shapes_mk {K : PySem.W.Frag} {w : World} {dS : Addr} {n : Nat} {h1 h2 h3 h4 h5 h6 h7 h8 : Int} {t1 t2 t3 t4 t5 t6 t7 t8 : Tok} {a1 a2 a3 a4 a5 a6 a7 a8 : Addr}
    (l : K.lookup dS = some ⟨.type "dict", none, .dict #[⟨h1, .str "set" t1, .ref a1⟩, ⟨h2, .str "add" t2, .ref a2⟩, ⟨h3, .str "skip" t3, .ref a3⟩, ⟨h4, .str "export" t4, .ref a4⟩, ⟨h5, .str "read" t5, .ref a5⟩, ⟨h6, .str "need" t6, .ref a6⟩, ⟨h7, .str "try" t7, .ref a7⟩, ⟨h8, .str "fail" t8, .ref a8⟩] n, #[]⟩)
    (e1 : h1 = PyData.keyHash w.params "set") (e2 : h2 = PyData.keyHash w.params "add") (e3 : h3 = PyData.keyHash w.params "skip") (e4 : h4 = PyData.keyHash w.params "export") (e5 : h5 = PyData.keyHash w.params "read") (e6 : h6 = PyData.keyHash w.params "need") (e7 : h7 = PyData.keyHash w.params "try") (e8 : h8 = PyData.keyHash w.params "fail")
    (low : (dS == sysModules) = false)
    (k1 : KTup K a1 ((["variable", "integer"] : List Str).map V.str)) (k2 : KTup K a2 ((["variable", "variable"] : List Str).map V.str)) (k3 : KTup K a3 ((["variable", "length"] : List Str).map V.str)) (k4 : KTup K a4 ((["name", "variable"] : List Str).map V.str))
    (k5 : KTup K a5 ((["variable", "module", "name"] : List Str).map V.str)) (k6 : KTup K a6 ((["module"] : List Str).map V.str)) (k7 : KTup K a7 ((["module", "variable"] : List Str).map V.str)) (k8 : KTup K a8 (([] : List Str).map V.str)) :
    ∃ es, Shapes K w dS es n := by
  refine ⟨_, ⟨l, ?_, low⟩, fun z hz => ?_, fun z ks hz => ?_⟩
  · exact ⟨⟨_, _, rfl, e1⟩, ⟨_, _, rfl, e2⟩, ⟨_, _, rfl, e3⟩, ⟨_, _, rfl, e4⟩, ⟨_, _, rfl, e5⟩, ⟨_, _, rfl, e6⟩, ⟨_, _, rfl, e7⟩, ⟨_, _, rfl, e8⟩, trivial⟩
  all_goals
    have ns := nsIn_dict (z := z) l (by rfl)
    rw [find_str, find_str, find_str, find_str, find_str, find_str, find_str, find_str] at ns
    rw [ns]
    clear ns
    unfold shapeOf at hz
  · by_cases c1 : z = "set"
    · rw [if_pos c1] at hz; cases hz
    by_cases c2 : z = "add"
    · rw [if_neg c1, if_pos c2] at hz; cases hz
    by_cases c3 : z = "skip"
    · rw [if_neg c1, if_neg c2, if_pos c3] at hz; cases hz
    by_cases c4 : z = "export"
    · rw [if_neg c1, if_neg c2, if_neg c3, if_pos c4] at hz; cases hz
    by_cases c5 : z = "read"
    · rw [if_neg c1, if_neg c2, if_neg c3, if_neg c4, if_pos c5] at hz; cases hz
    by_cases c6 : z = "need"
    · rw [if_neg c1, if_neg c2, if_neg c3, if_neg c4, if_neg c5, if_pos c6] at hz; cases hz
    by_cases c7 : z = "try"
    · rw [if_neg c1, if_neg c2, if_neg c3, if_neg c4, if_neg c5, if_neg c6, if_pos c7] at hz; cases hz
    by_cases c8 : z = "fail"
    · rw [if_neg c1, if_neg c2, if_neg c3, if_neg c4, if_neg c5, if_neg c6, if_neg c7, if_pos c8] at hz; cases hz
    rw [if_neg c1, if_neg c2, if_neg c3, if_neg c4, if_neg c5, if_neg c6, if_neg c7, if_neg c8]
    rfl
  · by_cases c1 : z = "set"
    · rw [if_pos c1] at hz ⊢; cases hz; exact ⟨a1, rfl, k1⟩
    by_cases c2 : z = "add"
    · rw [if_neg c1, if_pos c2] at hz ⊢; cases hz; exact ⟨a2, rfl, k2⟩
    by_cases c3 : z = "skip"
    · rw [if_neg c1, if_neg c2, if_pos c3] at hz ⊢; cases hz; exact ⟨a3, rfl, k3⟩
    by_cases c4 : z = "export"
    · rw [if_neg c1, if_neg c2, if_neg c3, if_pos c4] at hz ⊢; cases hz; exact ⟨a4, rfl, k4⟩
    by_cases c5 : z = "read"
    · rw [if_neg c1, if_neg c2, if_neg c3, if_neg c4, if_pos c5] at hz ⊢; cases hz; exact ⟨a5, rfl, k5⟩
    by_cases c6 : z = "need"
    · rw [if_neg c1, if_neg c2, if_neg c3, if_neg c4, if_neg c5, if_pos c6] at hz ⊢; cases hz; exact ⟨a6, rfl, k6⟩
    by_cases c7 : z = "try"
    · rw [if_neg c1, if_neg c2, if_neg c3, if_neg c4, if_neg c5, if_neg c6, if_pos c7] at hz ⊢; cases hz; exact ⟨a7, rfl, k7⟩
    by_cases c8 : z = "fail"
    · rw [if_neg c1, if_neg c2, if_neg c3, if_neg c4, if_neg c5, if_neg c6, if_neg c7, if_pos c8] at hz ⊢; cases hz; exact ⟨a8, rfl, k8⟩
    rw [if_neg c1, if_neg c2, if_neg c3, if_neg c4, if_neg c5, if_neg c6, if_neg c7, if_neg c8] at hz
    cases hz

/-- a def with is_main by its name alone, False where it lacks -/
def DefKw (K : PySem.W.Frag) (x : Str) (st : Stmt) : Prop := ∃ (f D : Addr) (od an : Option Addr) (sl : Array (Option Value)) (oc dc pm cd ct : Value),
  PySem.W.nsIn K mainGlobals x = some (some (.ref f)) ∧ K.lookup f = some ⟨oc, od, .func (PySem.W.fnOf x x (defArgs st) (defBody st) (defScope st) .none (.ref D) dc pm an cd ct), sl⟩ ∧ PySem.W.codeIn K cd x = true ∧ PySem.W.keepIn K (.ref f) = true ∧ PySem.W.nsIn K D "is_main" = some (some (.bool false))
theorem defKw {K : PySem.W.Frag} {x : Str} {st : Stmt} {f D : Addr} {od an : Option Addr} {sl : Array (Option Value)} {oc dc pm cd ct : Value} (a : PySem.W.nsIn K mainGlobals x = some (some (.ref f)))
    (l : K.lookup f = some ⟨oc, od, .func (PySem.W.fnOf x x (defArgs st) (defBody st) (defScope st) .none (.ref D) dc pm an cd ct), sl⟩) (c : PySem.W.codeIn K cd x = true) (k : PySem.W.keepIn K (.ref f) = true) (m : PySem.W.nsIn K D "is_main" = some (some (.bool false))) : DefKw K x st :=
  ⟨f, D, od, an, sl, oc, dc, pm, cd, ct, a, l, c, k, m⟩
/-! ### methods -/
def MethAt (K : PySem.W.Frag) (C : Addr) (m qual : Str) (st : Stmt) : Prop := ∃ (f : Addr) (od an : Option Addr) (sl : Array (Option Value)) (oc kV dc pm cd ct : Value),
  PySem.W.findIn K (.ref C) m = some (some (.ref f)) ∧ PySem.W.isFn K (.ref f) = true ∧ K.lookup f = some ⟨oc, od, .func (PySem.W.fnOf m qual (defArgs st) (defBody st) (defScope st) .none kV dc pm an cd ct), sl⟩ ∧ PySem.W.codeIn K cd qual = true ∧ PySem.W.keepIn K (.ref f) = true ∧ PySem.W.typeIn K (.ref f) = some (.type "function")
theorem methAt {K : PySem.W.Frag} {C : Addr} {m qual : Str} {st : Stmt} {f : Addr} {od an : Option Addr} {sl : Array (Option Value)} {oc kV dc pm cd ct : Value} (a : PySem.W.findIn K (.ref C) m = some (some (.ref f))) (i : PySem.W.isFn K (.ref f) = true)
    (l : K.lookup f = some ⟨oc, od, .func (PySem.W.fnOf m qual (defArgs st) (defBody st) (defScope st) .none kV dc pm an cd ct), sl⟩) (c : PySem.W.codeIn K cd qual = true) (k : PySem.W.keepIn K (.ref f) = true) (t : PySem.W.typeIn K (.ref f) = some (.type "function")) : MethAt K C m qual st :=
  ⟨f, od, an, sl, oc, kV, dc, pm, cd, ct, a, i, l, c, k, t⟩
def BindsM (m qual : Str) (st : Stmt) (ps : List Str) : Prop := ∀ (kV doc pm : Value) (an : Option Addr) (cdv ct : Value) (us : List Value), us.length = ps.length → bindArgs (PySem.W.fnOf m qual (defArgs st) (defBody st) (defScope st) .none kV doc pm an cdv ct) ⟨us, []⟩ = pure (ps.zip us)
theorem hasM_mk {P : Program} {w : World} {K : PySem.W.Frag} {mg : Str → Option Value} {base : Heap} {CX : CXT} {C : Addr} {m qual : Str} {st : Stmt} {ps : List Str} {sp : Sp} {k : Nat} (D : MethAt K C m qual st) (hb : BindsM m qual st ps)
    (ok : ∀ f fd, Fun K m qual st f fd → FnOk P w K mg base CX k f fd ps sp) : HasM P w K mg base CX k C m ps sp := by
  obtain ⟨f, od, an, sl, oc, kV, dc, pm, cd, ct, a, i, l, c, kp, t⟩ := D
  have F := fun_mk (st := st) l c kp
  exact ⟨⟨f, _, ok f _ F, F.binds hb, a, i, kp⟩⟩
/-! ### own errors -/
def ErrK (P : Program) (K : PySem.W.Frag) (C : Addr) (b : XB) (qual fld : Str) (st : Stmt) : Prop := ∃ (fI cda cc : Addr) (oc : Value) (od an : Option Addr) (kV doc pm ct : Value) (osl : Array (Option Value)),
  K.lookup fI = some ⟨oc, od, .func (PySem.W.ksFn "__init__" qual (defArgs st) (defBody st) (defScope st) .none kV doc pm an (.ref cda) ct cc), osl⟩ ∧ PySem.W.codeIn K (.ref cda) qual = true ∧ SupG P K C cda cc b ∧
  PySem.W.findIn K (.ref C) "__init__" = some (some (.ref fI)) ∧ PySem.W.typeIn K (.ref fI) = some (.type "function") ∧ PySem.W.findIn K (.ref C) fld = some none
theorem errK {P : Program} {K : PySem.W.Frag} {C fI cda cc : Addr} {b : XB} {qual fld : Str} {st : Stmt} {oc : Value} {od an : Option Addr} {kV doc pm ct : Value} {osl : Array (Option Value)} (i : PySem.W.findIn K (.ref C) "__init__" = some (some (.ref fI)))
    (l : K.lookup fI = some ⟨oc, od, .func (PySem.W.ksFn "__init__" qual (defArgs st) (defBody st) (defScope st) .none kV doc pm an (.ref cda) ct cc), osl⟩) (c : PySem.W.codeIn K (.ref cda) qual = true) (s : SupG P K C cda cc b)
    (t : PySem.W.typeIn K (.ref fI) = some (.type "function")) (p : PySem.W.findIn K (.ref C) fld = some none) : ErrK P K C b qual fld st := ⟨fI, cda, cc, oc, od, an, kV, doc, pm, ct, osl, l, c, s, i, t, p⟩
theorem oexG_mk {K : PySem.W.Frag} {C : Addr} {b : XB} {nm q : Str} {N : Addr} {bs bm : List Value} {sn : List Str} {sub : List Value} {ab : Bool} {col : Option Bool} {dd : Option Addr} {k0 k1 k2 k3 k5 : Option Value} (ok : b.Ok)
    (l : K.lookup C = some (excClassObj nm q C N bs bm true sn sub ab col dd k0 k1 k2 k3 k5 b.nw)) (m : downTo b.tl bm = true) (sa : PySem.W.findIn K (.ref C) "__setattr__" = some (some (.builtin "object.__setattr__")))
    (ex : PySem.W.subIn K (.ref C) (.type "BaseException") = some true) (ty : PySem.W.typeIn K (.ref C) = some (.type "type")) (kC : PySem.W.keepIn K (.ref C) = true) : OexG K C b :=
  ⟨ok, ⟨nm, q, N, bs, bm, sn, sub, ab, col, dd, k0, k1, k2, k3, k5, l, m⟩, sa, ex, ty, kC⟩
theorem supG_mk {P : Program} {K : PySem.W.Frag} {C cda cc : Addr} {b : XB} {ccl : Value} {cdd : Option Addr} {cvs : Array Value} {ccs : Array (Option Value)} {file : Str} {tf : Tok} {cl : Value} {cld : Option Addr} {csl : Array (Option Value)} (o : OexG K C b)
    (a : K.lookup cda = some ⟨ccl, cdd, .fields cvs, ccs⟩) (f2 : cvs[2]? = some (.str file tf)) (c : ((P.main.file : Str) == file) = true) (d : K.lookup cc = some ⟨cl, cld, .cell (some (.ref C)), csl⟩) (e : PySem.W.mroIn K C (.ref C) = some true)
    (f : PySem.W.nsIn K cStatics "thirdparty.any" = some none) (g : PySem.W.ks_superIn K C C "__init__" = some (some (.builtin b.ini))) (h : PySem.W.subIn K (.ref C) (.type b.B) = some true) (i : (P.main.scope.names.lookup ("super" : Str)).isSome = false) : SupG P K C cda cc b :=
  ⟨o, ⟨ccl, cdd, cvs, ccs, file, tf, a, f2, c⟩, ⟨cl, cld, csl, d⟩, e, f, g, h, i⟩
theorem errAt_of {P : Program} {K : PySem.W.Frag} {mg : Str → Option Value} {h : Heap} {C : Addr} {b : XB} {cn qual fld : Str} {st : Stmt} (X : K.In h) (G : h.Ns mainGlobals mg) (c : PySem.W.nsIn K mainGlobals cn = some (some (.ref C))) (e : ErrK P K C b qual fld st) : ∃ fI fd, ErrAt P K mg C fI fd b cn qual fld st := by
  obtain ⟨fI, cda, cc, oc, od, an, kV, doc, pm, ct, osl, l, cd, s, i, t, p⟩ := e
  exact ⟨fI, _, ⟨cda, cc, oc, od, an, kV, doc, pm, ct, osl, rfl, l, cd, s⟩, i, t, p, PySem.W.mg_of X G c⟩
/-- the class of frames -/
def ClsK (K : PySem.W.Frag) (C : Addr) : Prop := Cls K C ∧ PySem.W.makesIn K C = true ∧ PySem.W.keepIn K (.ref C) = true
end Cr
/-! frames: pass_step -/
namespace Cr
open PySem PySem.Spec PyProof.Rows L2 Evl
abbrev sGiven : Stmt := topS 31
abbrev sFPass : Stmt := inClass (topS 32) 9
abbrev nFPass : List Str := ["self", "value", "step", "variable"]
theorem scGiven : FnScope ["step"] ["step"] (defScope sGiven) := ⟨rfl, rfl, rfl, by decide +kernel, rfl, by decide +kernel, by decide +kernel⟩
theorem scFPass : FnScope nFPass ["self", "value"] (defScope sFPass) := ⟨rfl, rfl, rfl, by decide +kernel, rfl, by decide +kernel, by decide +kernel⟩
inductive OtherV : List V → Prop
  | exp {n x : Str} : OtherV [.str "export", .str n, .str x]
  | read {x m n : Str} (h : isVar (.str x) = true) : OtherV [.str "read", .str x, .str m, .str n]
  | need {m : Str} : OtherV [.str "need", .str m]
  | try_ {m x : Str} (h : isVar (.str x) = true) : OtherV [.str "try", .str m, .str x]
  | fail : OtherV [.str "fail"]
/-- the variable that gets a value -/
def givenX (us : List V) : Option Str :=
  match us with
  | [.str _, .str x, .str _, .str _] => some x
  | [.str z, .str _, .str x] => if z = "try" then some x else none
  | _ => none
theorem given_try {m x : Str} : givenX [.str "try", .str m, .str x] = some x := by
  show (if ("try" : Str) = "try" then some x else none) = some x
  rw [if_pos rfl]
theorem given_exp {m x : Str} : givenX [.str "export", .str m, .str x] = none := by
  show (if ("export" : Str) = "try" then some x else none) = none
  rw [if_neg (by decide +kernel)]
theorem kinds8 {z : Str} {ks : List Str} (h : shapeOf z = some ks) : (z = "set" ∨ z = "add" ∨ z = "skip") ∨ z = "export" ∨ z = "read" ∨ z = "need" ∨ z = "try" ∨ z = "fail" := by
  unfold shapeOf at h
  repeat' split at h
  all_goals first
    | (rename_i e; simp [e]; done)
    | cases h
theorem other_of {us : List V} (h : StepV us) (hp : isPlain (.tuple (us.map flD)) = false) : OtherV us := by
  have hs := h.step
  have hb := h.bare
  unfold isPlain at hp
  rw [hs, Bool.true_and] at hp
  have str1 : ∀ {v : V}, isVar (flD v) = true → ∃ x, v = .str x := fun {v} h => by
    cases v with
    | str x => exact ⟨x, rfl⟩
    | _ => exact nomatch h
  have nam1 : ∀ {v : V}, isName (flD v) = true → ∃ x, v = .str x := fun {v} h => by
    cases v with
    | str x => exact ⟨x, rfl⟩
    | _ => exact nomatch h
  cases us with
  | nil => exact nomatch hs
  | cons v0 us =>
    cases v0 with
    | str z =>
      have hs' : isStep (.tuple (.str z :: us.map flD)) = true := hs
      obtain ⟨ks, hk⟩ : ∃ ks, shapeOf z = some ks := by
        cases e : shapeOf z with
        | some ks => exact ⟨ks, rfl⟩
        | none =>
          have zz : isStep (.tuple (.str z :: us.map flD)) = false := by
            show (match shapeOf z with | some ks => _ | none => false) = false
            rw [e]
          rw [zz] at hs'
          cases hs'
      have hp' : (plain3.any fun y => y == z) = false := hp
      have len : ∀ {ks : List Str}, shapeOf z = some ks → us.length = ks.length ∧ stepItems (us.map flD) ks = true := fun {ks} e => by
        rw [isStep_eq e] at hs'
        obtain ⟨a1, a2⟩ := Bool.and_eq_true_iff.mp hs'
        have := of_decide_eq_true a1
        rw [List.length_map] at this
        exact ⟨this, a2⟩
      rcases kinds8 hk with hz | rfl | rfl | rfl | rfl | rfl
      · rcases hz with rfl | rfl | rfl <;> exact absurd hp' (by decide +kernel)
      · obtain ⟨l, it⟩ := len sh_export
        match us, l with
        | [a, b], _ =>
          rw [List.map_cons, List.map_cons, List.map_nil, items2, it_name, it_var] at it
          obtain ⟨c1, c2⟩ := Bool.and_eq_true_iff.mp it
          obtain ⟨x, rfl⟩ := nam1 c1
          obtain ⟨y, rfl⟩ := str1 c2
          exact .exp
      · obtain ⟨l, it⟩ := len sh_read
        match us, l with
        | [a, b, c], _ =>
          rw [List.map_cons, List.map_cons, List.map_cons, List.map_nil, items3, it_var, it_mod, it_name] at it
          obtain ⟨c1, c23⟩ := Bool.and_eq_true_iff.mp it
          obtain ⟨c2, c3⟩ := Bool.and_eq_true_iff.mp c23
          obtain ⟨x, rfl⟩ := str1 c1
          obtain ⟨y, rfl⟩ := nam1 c2
          obtain ⟨u, rfl⟩ := nam1 c3
          exact .read c1
      · obtain ⟨l, it⟩ := len sh_need
        match us, l with
        | [a], _ =>
          rw [List.map_cons, List.map_nil, items1, it_mod] at it
          obtain ⟨x, rfl⟩ := nam1 it
          exact .need
      · obtain ⟨l, it⟩ := len sh_try
        match us, l with
        | [a, b], _ =>
          rw [List.map_cons, List.map_cons, List.map_nil, items2, it_mod, it_var] at it
          obtain ⟨c1, c2⟩ := Bool.and_eq_true_iff.mp it
          obtain ⟨x, rfl⟩ := nam1 c1
          obtain ⟨y, rfl⟩ := str1 c2
          exact .try_ c2
      · obtain ⟨l, it⟩ := len sh_fail
        match us, l with
        | [], _ => exact .fail
    | _ =>
      rw [List.all_cons] at hb
      first
        | exact nomatch hs
        | exact nomatch hb
theorem given_var {us : List V} {x : Str} (h : OtherV us) (e : givenX us = some x) : isVar (.str x) = true := by
  cases h with
  | exp => rw [given_exp] at e; cases e
  | read h => cases e; exact h
  | need => cases e
  | try_ h => rw [given_try] at e; cases e; exact h
  | fail => cases e
def varV : Option Str → V
  | some x => .str x
  | none => .non
def memoO (us : List V) (i : Int) (m : M4) : M4 :=
  match givenX us with
  | some x => m.set x i
  | none => m
def spGiven : Sp := fun vs H Q _ => ∃ (t : Addr) (us : List V), vs = [.ref t] ∧ H t = some (.tup us) ∧ OtherV us ∧ ∀ H', Ex H H' → Q (varV (givenX us)) H'
def isNoneD : PyData → Bool
  | .none => true
  | _ => false
/-- is the value right for the step -/
def rightV (us : List V) (d : PyData) : Bool :=
  match givenX us with
  | some _ => isInteger d
  | none => isNoneD d
def intOf : PyData → Int
  | .int i => i
  | _ => 0
def spPass (C CW CN : Addr) : Sp := fun vs H Q E => ∃ (p : Addr) (v : V) (dv : PyData) (A : FrA) (vss : List (List V)) (pos : Nat) (m : M4) (n : Nat), vs = [.ref p, v] ∧ Dt H v dv ∧ sm dv = true ∧ FrameAt C H p A vss pos m n ∧ (vss.length ≤ 900 ∧ n ≤ 900) ∧ pos ≤ vss.length ∧ (∀ us ∈ vss, StepV us) ∧
  (∀ us H', vss[pos]? = some us → OtherV us → rightV us dv = true → FrameAt C H' p A vss (pos + 1) (memoO us (intOf dv) m) (n + 1) → But (own p A) H H' → Q .non H') ∧
  ((vss[pos]? = none ∨ isPlain (nextD vss pos) = true) → ∀ dx H', H dx = none → Ex H H' → H' dx = some (.xd [("position", .int (pos : Int))]) → E (.ref CW) (some dx) H') ∧
  (∀ us H', vss[pos]? = some us → OtherV us → rightV us dv = false → Ex H H' → E (.ref CN) none H')
/-- InvalidNumber, raised with words alone -/
structure NumC (K : PySem.W.Frag) (mg : Str → Option Value) (C : Addr) : Prop where
  at_ : mg "InvalidNumber" = some (.ref C)
  exc : PySem.W.excIn K C [.type "ValueError", .type "Exception", .type "BaseException", .type "object"] "ValueError.__new__" = true
  kp : PySem.W.keepIn K (.ref C) = true
  sub : PySem.W.subIn K (.ref C) (.type "BaseException") = some true
  ty : PySem.W.typeIn K (.ref C) = some (.type "type")
section
variable {P : Program} {w : World} {K : PySem.W.Frag} {mg : Str → Option Value} {base : Heap}
theorem ok_given {f : Addr} {fd : FuncData} {k : Nat} (F : Fun K "given_variable" "given_variable" sGiven f fd) : FnOk P w K mg base CX0 (k + 1) f fd ["step"] spGiven := by
  refine F.ok scGiven (fun vs H Q E h => by obtain ⟨_, _, rfl, _⟩ := h; rfl) (fun cdv A outer s H vs Q E hr h => ?_)
  obtain ⟨t, us, rfl, hT, ov, q⟩ := h
  refine ⟨_, pss_cons (ps_if (pt_cmpR op_eq (pe_ix ix_tup (pv 0) pe_int (fun _ _ => rfl)) pe_str (nomark _)) (pss_one (ps_ret (pe_ix ix_tup (pv 0) pe_int (fun _ _ => rfl)))) pss_nil)
    (pss_one (ps_ret (pe_ifExp (pt_cmpR op_eq (pe_ix ix_tup (pv 0) pe_int (fun _ _ => rfl)) pe_str (nomark _)) (pe_ix ix_tup (pv 0) pe_int (fun _ _ => rfl)) pe_non))), ?_⟩
  have ix : ∀ {H' : Hp} {j : Nat} {v : V}, Ex H H' → us[j]? = some v → Ev (tOp (rIxT K) (tVar 0) (tC (.int (j : Int)))) (L2.start ["step"] [.ref t]) H' v := fun e h => ev_op (ev_var rfl) ev_c (rv_ixT (st_of (e _ _ hT)) (atI_nat h))
  have none_ : ∀ {z : Str}, us[0]? = some (.str z) → decide (V.str z = V.str "read") = false → decide (V.str z = V.str "try") = false → givenX us = none → tSeq (tIfS (tTest (tOp rEq (tOp (rIxT K) (tVar 0) (tC (.int 0))) (tC (.str "read")))) (tRet (tOp (rIxT K) (tVar 0) (tC (.int 1)))) tNext) (tRet (tIf (tTest (tOp rEq (tOp (rIxT K) (tVar 0) (tC (.int 0))) (tC (.str "try")))) (tOp (rIxT K) (tVar 0) (tC (.int 2))) (tC .non))) { nx := fun _ H' => Q .non H', rt := Q } (L2.start ["step"] [.ref t]) H := fun {z} h0 n1 n2 g => by
    refine q_when (b := false) (et_is (et_test (ev_op (ix (j := 0) (Ex.refl _) h0) ev_c (rv_eq rfl))) n1) (fun z => nomatch z) (fun _ H1 e1 => ?_)
    refine s_ret (v := .non) (ev_if (b := false) (et_is (et_test (ev_op (ix (j := 0) e1 h0) ev_c (rv_eq rfl))) n2) (fun z => nomatch z) fun _ => ev_c) fun H2 e2 => ?_
    have g2 := q H2 (e1.trans e2)
    rw [g] at g2
    exact g2
  cases ov with
  | exp => exact none_ rfl (by decide +kernel) (by decide +kernel) given_exp
  | need => exact none_ rfl (by decide +kernel) (by decide +kernel) rfl
  | fail => exact none_ rfl (by decide +kernel) (by decide +kernel) rfl
  | @read x m n hx =>
    exact q_when (b := true) (et_is (et_test (ev_op (ix (j := 0) (Ex.refl _) rfl) ev_c (rv_eq rfl))) (decide_eq_true rfl)) (fun _ H1 e1 => s_ret (ix (j := 1) e1 rfl) fun H2 e2 => q H2 (e1.trans e2)) (fun z => nomatch z)
  | @try_ m x hx =>
    refine q_when (b := false) (et_is (et_test (ev_op (ix (j := 0) (Ex.refl _) rfl) ev_c (rv_eq rfl))) (by decide +kernel)) (fun z => nomatch z) (fun _ H1 e1 => ?_)
    refine s_ret (ev_if (b := true) (et_is (et_test (ev_op (ix (j := 0) e1 rfl) ev_c (rv_eq rfl))) (decide_eq_true rfl)) (fun _ => ix (j := 2) e1 rfl) fun z => nomatch z) fun H2 e2 => ?_
    have g2 := q H2 (e1.trans e2)
    rw [given_try] at g2
    exact g2
theorem ok_pass {f C CW CN : Addr} {fd : FuncData} {k : Nat} (F : Fun K "pass_step" "Frame.pass_step" sFPass f fd) (B : Blt mg) (T : FrC K mg C) (W : MkNum P w K mg base CW "WrongStep" "position" "position") (Nc : NumC K mg CN) (hk2 : 2 ≤ k)
    (h1 : HasM P w K mg base CX0 k C "next_step" ["self"] (spNext C)) (h2 : HasO P w K mg base k "is_plain" ["step"] (spD isPlain)) (h3 : HasM P w K mg base CX0 k C "move" ["self", "length"] (spMove C)) (h4 : HasO P w K mg base k "given_variable" ["step"] spGiven) (h5 : HasO P w K mg base k "is_integer" ["value"] (spD isInteger)) :
    FnOk P w K mg base (L2.CX P w) (k + 1) f fd ["self", "value"] (spPass C CW CN) := by
  obtain ⟨f1, d1, G1, b1, m1⟩ := h1.ex
  obtain ⟨f2, d2, G2, b2, k2, g2⟩ := h2.ex
  obtain ⟨f3, d3, G3, b3, m3⟩ := h3.ex
  obtain ⟨f4, d4, G4, b4, k4, g4⟩ := h4.ex
  obtain ⟨f5, d5, G5, b5, k5, g5⟩ := h5.ex
  obtain ⟨fI, fdI, bb, Ox, FI, bI, iI, tI, gC⟩ := W.ex
  refine F.okX scFPass (fun vs H Q E h => by obtain ⟨_, _, _, _, _, _, _, _, rfl, _⟩ := h; rfl) (fun cdv A outer s H vs Q E hr h => ?_)
  obtain ⟨p, v, dv, A', vss, pos, m, n, rfl, hdv, hsm, fr, few, hpos, hV, q, qw, qn⟩ := h
  have hu := hu_of hr
  refine ⟨_, pss_cons (ps_set (i := 2) scFPass.nd rfl (.inl rfl) (pe_meth0 (E := E0) (pv 0) T.cl m1 G1 hr b1 .nil pass0))
    (pss_cons (ps_if (PW.pt (pw_or (pt_cmpR op_isN (pv 2) pe_non (nomark _)) (pw_or1 (pt_val (pe_call (E := E0) G2 hr (by rfl) g2 k2 b2 .nil pass0 (pa_cons (pv 2) pa_nil))))))
      (pss_one (ps_raise rfl (takes_of rfl rfl rfl rfl) (pmkG Ox iI tI FI (hr.mono hk2) bI .nil pass0 (by rfl) gC (pa_cons (pe_fld (pv 0) rfl) pa_nil)))) pss_nil)
    (pss_cons (ps_set (i := 3) scFPass.nd rfl (.inl rfl) (pe_call (E := E0) G4 hr (by rfl) g4 k4 b4 .nil pass0 (pa_cons (pv 2) pa_nil)))
    (pss_cons (ps_if (PW.pt (pw_and (pt_cmpR op_isN (pv 3) pe_non (nomark _)) (pw_and1 (pt_cmpR op_notN (pv 1) pe_non (nomark _))))) (pss_one (ps_raise rfl (takes_of rfl rfl rfl rfl) (pmk_own PySem.F.excBase_ValueError Nc.exc Nc.at_ Nc.kp (raises_own Nc.sub Nc.ty) rfl))) pss_nil)
    (pss_cons (ps_if (PW.pt (pw_and (pt_cmpR op_notN (pv 3) pe_non (nomark _)) (pw_and1 (pt_not (pt_val (pe_call (E := E0) G5 hr (by rfl) g5 k5 b5 .nil pass0 (pa_cons (pv 1) pa_nil))))))) (pss_one (ps_raise rfl (takes_of rfl rfl rfl rfl) (pmk_own PySem.F.excBase_ValueError Nc.exc Nc.at_ Nc.kp (raises_own Nc.sub Nc.ty) rfl))) pss_nil)
    (pss_cut (ps_if (pt_cmpR op_notN (pv 3) pe_non (nomark _)) (pss_one (ps_dput hu (pe_fld (pv 0) rfl) (pv 3) (pe_callTy call_int1 (by rfl) B.int bInt (pa_cons (pv 1) pa_nil)) rfl)) pss_nil)
    (pss_one (ps_expr (pe_meth (E := E0) (pv 0) T.cl m3 G3 hr b3 .nil pass0 (pa_cons pe_int pa_nil))))))))), ?_⟩
  refine q_asgAny ⟨.ref p, rfl, p, A'.dx, _, rfl, fr.ob, by rfl, p, A', vss, pos, m, n, rfl, fr, ⟨by omega, by omega⟩, hpos, fun v2 H1 e1 hv => ?_⟩
  have fr1 := fr.ex e1
  have dt : Dt H1 v2 (nextD vss pos) ∧ sm (nextD vss pos) = true := by
    unfold nextD
    rcases hv with ⟨rfl, e⟩ | ⟨t, us, rfl, hus, hT⟩
    · rw [List.getElem?_eq_none (by omega)]
      exact ⟨.non, rfl⟩
    · rw [hus]
      have sv := hV us (List.mem_of_getElem? hus)
      exact ⟨.tup hT (dtAll_flat (stepV_flat sv)), stepV_sm sv⟩
  refine q_when (b := decide (v2 = .non) || isPlain (nextD vss pos)) (et_or (et_test (ev_op (ev_var rfl) ev_c (rv_val fun H2 _ Q q => ⟨rfl, q⟩))) fun _ => et_B (ev_call (ea_cons (ev_var rfl) ea_nil) (spv_D dt.1 dt.2))) (fun hb H2 e2 => ?_) (fun hb H2 e2 => ?_)
  · have fr2 := fr1.ex e2
    have cond : vss[pos]? = none ∨ isPlain (nextD vss pos) = true := by
      rcases Bool.or_eq_true_iff.mp hb with z | z
      · rcases hv with ⟨rfl, e⟩ | ⟨t, us, rfl, hus, hT⟩
        · exact .inl (List.getElem?_eq_none (by omega))
        · exact absurd (of_decide_eq_true z) (fun y => nomatch y)
      · exact .inr z
    exact mk_num ⟨.ref p, rfl, p, C, A'.dx, _, _, rfl, fr2.ob, T.cl, T.nP, fl_pos _ _, (pos : Int), rfl, log_small (by omega), fun dx hz => qw cond dx _ (fresh_back (e1.trans e2) hz) ((e1.trans e2).trans (Ex.new hz)) upd_same⟩
      (fun k ⟨x, hx, a, C, dx, fs, v, h1, h2, h3, h4, h5, r⟩ => ⟨x, hx, a, C, dx, fs, v, h1, h2, h3, h4, h5, k _ _ r⟩)
  · rw [Bool.or_eq_false_iff] at hb
    rcases hv with ⟨rfl, e⟩ | ⟨t, us, rfl, hus, hT⟩
    · exact absurd hb.1 (by decide)
    have sv := hV us (List.mem_of_getElem? hus)
    have ov : OtherV us := other_of sv (by have z := hb.2; unfold nextD at z; rw [hus] at z; exact z)
    have e12 := e1.trans e2
    refine q_asg (v := varV (givenX us)) (ev_call (ea_cons (ev_var rfl) ea_nil) fun H3 e3 Q q E => ⟨t, us, rfl, e3 _ _ (e2 _ _ hT), ov, q⟩) fun H3 e3 => ?_
    have e13 := e12.trans e3
    have dv3 := Dt.ex e13 hdv
    -- the value
    have vn : decide (v = .non) = isNoneD dv := by cases hdv <;> rfl
    refine q_when (b := decide (varV (givenX us) = .non) && !decide (v = .non)) (et_and (et_test (ev_op (ev_var rfl) ev_c (rv_val fun H2 _ Q q => ⟨rfl, q⟩))) fun _ => et_test (ev_op (ev_var rfl) ev_c (rv_val fun H2 _ Q q => ⟨rfl, q⟩))) (fun hb1 H4 e4 => ?_) (fun hb1 H4 e4 => ?_)
    · refine qn us H4 hus ov ?_ (e13.trans e4)
      obtain ⟨c1, c2⟩ := Bool.and_eq_true_iff.mp hb1
      have gn : givenX us = none := by
        cases hg : givenX us with
        | none => rfl
        | some x => rw [hg] at c1; exact absurd (of_decide_eq_true c1) (fun y => nomatch y)
      unfold rightV
      rw [gn]
      rw [vn, Bool.not_eq_true'] at c2
      exact c2
    have e14 := e13.trans e4
    refine q_when (b := !decide (varV (givenX us) = .non) && !isInteger dv) (et_and (et_test (ev_op (ev_var rfl) ev_c (rv_val fun H2 _ Q q => ⟨rfl, q⟩))) fun _ => et_not (et_B (ev_call (ea_cons (ev_var rfl) ea_nil) (spv_D (Dt.ex e14 hdv) hsm)))) (fun hb2 H5 e5 => ?_) (fun hb2 H5 e5 => ?_)
    · refine qn us H5 hus ov ?_ (e14.trans e5)
      obtain ⟨c1, c2⟩ := Bool.and_eq_true_iff.mp hb2
      unfold rightV
      cases hg : givenX us with
      | none => rw [hg] at c1; exact absurd c1 (by decide)
      | some x => rw [Bool.not_eq_true'] at c2; exact c2
    have e15 := e14.trans e5
    have fr5 := fr.ex e15
    have bt : But (own p A') H H5 := But.of e15
    have right : rightV us dv = true := by
      unfold rightV
      cases hg : givenX us with
      | none =>
        rw [hg] at hb1
        have c : (decide (varV none = V.non) && !decide (v = .non)) = false := hb1
        rw [show decide (varV none = V.non) = true from rfl, Bool.true_and, vn, Bool.not_eq_false'] at c
        exact c
      | some x =>
        rw [hg] at hb2
        have c : (!decide (varV (some x) = V.non) && !isInteger dv) = false := hb2
        rw [show decide (varV (some x) = V.non) = false from decide_eq_false (fun z => nomatch z), Bool.not_false, Bool.true_and, Bool.not_eq_false'] at c
        exact c
    refine q_cut (M := fun σ H6 => σ[0]? = some (some (.ref p)) ∧ FrameAt C H6 p A' vss pos (memoO us (intOf dv) m) n ∧ But (own p A') H H6) ?_ (fun σ H6 ⟨s0, f6, b6⟩ => ?_)
    · cases hg : givenX us with
      | none =>
        refine s_when (b := false) (et_is (et_test (ev_op (ev_var (v := .non) rfl) ev_c (rv_val fun H2 _ Q q => ⟨rfl, q⟩))) rfl) (fun z => nomatch z) (fun _ H6 e6 => ⟨rfl, ?_, bt.trans (But.of e6)⟩)
        unfold memoO
        rw [hg]
        exact fr5.ex e6
      | some x =>
        have hx := given_var ov hg
        have hi : ∃ i, v = .int i ∧ dv = .int i := by
          unfold rightV at right
          rw [hg] at right
          cases hdv with
          | int i => exact ⟨i, rfl, rfl⟩
          | _ => exact nomatch right
        obtain ⟨i, rfl, rfl⟩ := hi
        refine s_when (b := true) (et_is (et_test (ev_op (ev_var (v := .str x) rfl) ev_c (rv_val fun H2 _ Q q => ⟨rfl, q⟩))) (by rw [decide_eq_false (fun z => nomatch z)]; rfl)) (fun _ H6 e6 => ?_) (fun z => nomatch z)
        have f6 := fr5.ex e6
        refine ⟨.int i, rfl, .inl ⟨i, rfl, .ref p, rfl, p, C, A'.dx, _, _, rfl, f6.ob, T.cl, T.nM, fl_mem _ _, .str x, rfl, A'.aM, _, rfl, DPut.k (k := .inr x) f6.me (by show 4 < sizeLine; decide), rfl, ?_, (bt.trans (But.of e6)).upd (by simp [own])⟩⟩
        unfold memoO
        rw [hg, m4_put _ hx]
        exact f6.setM _
    · refine ⟨.ref p, s0, p, A'.dx, _, rfl, f6.ob, by rfl, p, A', vss, pos, memoO us (intOf dv) m, n, 1, rfl, f6, by omega, fun H7 f7 b7 => q us H7 hus ov right f7 (b6.trans b7)⟩
end
end Cr
/-! the law's own: texts, names, numbers, steps -/
namespace Cr
open PySem PySem.Spec PyProof.Rows L2 Evl
/-! ### texts of letters -/
theorem join_cps : ∀ ws : List Str, (Txt.join ("" : Str) ws).cps.toList = ws.flatMap fun w => w.cps.toList := by
  have e0 : (("" : Str)).cps.toList = [] := by decide +kernel
  have h : ∀ ws : List Str, (Str.join ("" : Str) ws).cps.toList = ws.flatMap fun w => w.cps.toList := by
    intro ws
    induction ws with
    | nil => rfl
    | cons x r ih =>
      cases r with
      | nil => simp [Str.join]
      | cons y r =>
        rw [show Str.join ("" : Str) (x :: y :: r) = x ++ "" ++ Str.join "" (y :: r) from rfl, Str.cps_append, Str.cps_append, Array.toList_append, Array.toList_append, ih, e0, List.append_nil]
        simp
  intro ws
  rw [TL.join_eq]
  exact h ws
theorem len_toList (x : Str) : x.cps.toList.length = x.length := by simp [Str.length]
theorem name_of {x : Str} {cs : List Nat} (e : x.cps.toList = cs) (h1 : 1 ≤ cs.length) (h2 : cs.length ≤ 8) (h : ∀ c ∈ cs, isLow c = true) : isNameS x = true := by
  have l := len_toList x
  rw [e] at l
  unfold isNameS
  rw [e, decide_eq_true (show (1 : Int) ≤ x.length by omega), decide_eq_true (show (x.length : Int) ≤ 8 by omega), List.all_eq_true.mpr h]
  rfl
def isOne (w : Str) : Prop := ∃ c, w = ⟨#[c]⟩ ∧ isLow c = true
theorem join_ones : ∀ {ws : List Str}, (∀ w ∈ ws, isOne w) → ∃ cs : List Nat, (ws.flatMap fun w => w.cps.toList) = cs ∧ cs.length = ws.length ∧ ∀ c ∈ cs, isLow c = true
  | [], _ => ⟨[], rfl, rfl, by simp⟩
  | w :: r, h => by
    obtain ⟨c, rfl, hc⟩ := h w (List.mem_cons_self ..)
    obtain ⟨cs, e, l, ha⟩ := join_ones fun w hw => h w (List.mem_cons_of_mem _ hw)
    refine ⟨c :: cs, ?_, by simp [l], ?_⟩
    · rw [List.flatMap_cons, e]; rfl
    · intro d hd
      rcases List.mem_cons.mp hd with rfl | hd
      · exact hc
      · exact ha d hd
abbrev abc : Str := "abcdefghijklmnopqrstuvwxyz"
theorem abc_get (i : Nat) (h : i < 26) : abc.cps.toList[i]? = some (97 + i) := by
  have : ∀ i < 26, abc.cps.toList[i]? = some (97 + i) := by decide +kernel
  exact this i h
theorem low_of {i : Nat} (h : i < 26) : isLow (97 + i) = true := by
  unfold isLow
  rw [decide_eq_true (show 97 ≤ 97 + i by omega), decide_eq_true (show 97 + i ≤ 122 by omega)]; rfl
/-- pigeons -/
theorem pigeon : ∀ {ws us : List Str}, ws.Nodup → (∀ w ∈ ws, w ∈ us) → ws.length ≤ us.length
  | [], _, _, _ => Nat.zero_le _
  | w :: ws, us, nd, h => by
    have hw := h w (List.mem_cons_self ..)
    rw [List.nodup_cons] at nd
    have ih := pigeon (us := us.erase w) nd.2 fun x hx => (List.mem_erase_of_ne (fun e : x = w => nd.1 (by rw [← e]; exact hx))).mpr (h x (List.mem_cons_of_mem _ hx))
    rw [List.length_erase_of_mem hw] at ih
    have : 0 < us.length := List.length_pos_of_mem hw
    rw [List.length_cons]
    omega
def spare (i : Nat) : Str := ⟨#[97 + i / 26, 97 + i % 26, 113]⟩
theorem spare_nd : ((List.range 20).map spare).Nodup := by decide +kernel
theorem spare_name (i : Nat) (h : i < 676) : isNameS (spare i) = true := by
  refine name_of (x := spare i) (cs := [97 + i / 26, 97 + i % 26, 113]) rfl (by simp) (by simp) fun c hc => ?_
  simp only [List.mem_cons, List.not_mem_nil, or_false] at hc
  rcases hc with rfl | rfl | rfl
  · exact low_of (by omega)
  · exact low_of (by omega)
  · rfl
theorem spare_free {us : List Str} (h : us.length ≤ 10) : ∃ i, i < 20 ∧ spare i ∉ us := by
  refine Classical.byContradiction fun n => ?_
  have all : ∀ w ∈ (List.range 20).map spare, w ∈ us := fun w hw => by
    obtain ⟨i, hi, rfl⟩ := List.mem_map.mp hw
    exact Classical.byContradiction fun z => n ⟨i, List.mem_range.mp hi, z⟩
  have := pigeon spare_nd all
  rw [List.length_map, List.length_range] at this
  omega
theorem inV_mem {z : Str} {us : List Str} : inV (.str z) (us.map V.str) = true ↔ z ∈ us := by
  rw [inV_strs, List.any_eq_true]
  constructor
  · rintro ⟨x, hx, e⟩
    rw [beq_iff_eq] at e
    exact e ▸ hx
  · intro h
    exact ⟨z, h, beq_self_eq_true z⟩
theorem Drew.mut {p D : Addr} {H H' : Hp} {o : HO} (d : Drew p H H') (hD : H D = none) (n : D ≠ p) : Drew p H (upd H' D o) := by
  refine ⟨fun a u h => ?_, ?_⟩
  · have hn := (wo_some h).1
    have hD' : a ≠ D := ne_of_none (wo_some h).2 hD
    have q := d.ex a u h
    rw [wo_ne hn] at q ⊢
    rw [upd_ne hD']
    exact q
  · obtain ⟨x, y, z, r⟩ := d.pot
    exact ⟨x, y, by rw [upd_ne n.symm]; exact z, r⟩
theorem Drew.neq {p q : Addr} {H H' : Hp} (d : Drew p H H') (h : H' q = none) : q ≠ p := fun e => by
  obtain ⟨x, y, z, _⟩ := d.pot
  rw [← e, h] at z
  cases z

/-- a name that is not among the used ones -/
def spName : Sp := fun vs H Q _ => ∃ (p u : Addr) (us : List Str), vs = [.ref p, .ref u] ∧ Pot H p ∧ u ≠ p ∧ H u = some (.lst (us.map V.str)) ∧ us.length ≤ 10 ∧ ∀ x H', isNameS x = true → Drew p H H' → Q (.str x) H'
def spNames : Sp := fun vs H Q _ => ∃ (p : Addr) (n : Nat), vs = [.ref p, .int (n : Int)] ∧ Pot H p ∧ n ≤ 10 ∧
  ∀ (l : Addr) (xs : List Str) (H' : Hp), H l = none → H' l = some (.lst (xs.map V.str)) → xs.length = n → (∀ x ∈ xs, isNameS x = true) → Drew p H H' → Q (.ref l) H'
theorem Drew.new {p q : Addr} {H H' : Hp} {o : HO} (d : Drew p H H') (h : H' q = none) : Drew p H (upd H' q o) := d.trans (Drew.of d.pot (Ex.new h))
/-- an int of at most thirty digits -/
def spInteger : Sp := fun vs H Q _ => ∃ p : Addr, vs = [.ref p] ∧ Pot H p ∧ ∀ (i : Int) H', i.natAbs ≤ 10 ^ 30 → Drew p H H' → Q (.int i) H'
/-- ints of a step are not too great -/
def intsIn (us : List V) : Prop := ∀ i : Int, V.int i ∈ us → i.natAbs ≤ 10 ^ 30
theorem plain_stepV {us : List V} (h : PlainV us) : StepV us := by
  have v1 : ∀ {x : Str}, isVar (.str x) = true → bare8 (.str x) = true := fun h => by rcases var_cases h with rfl | rfl | rfl | rfl <;> decide +kernel
  cases h with
  | @set x i hx =>
    refine ⟨?_, ?_, by show 1 ≤ 3; decide, by show 3 ≤ 4; decide⟩
    · rw [List.all_cons, List.all_cons, v1 hx]
      show (bare8 (.str "set") && (true && true)) = true
      decide +kernel
    · rw [show ([V.str "set", V.str x, V.int i].map flD) = [.str "set", .str x, .int i] from rfl, isStep_eq sh_set, items2, it_var, it_int, hx]
      rfl
  | @add x y hx hy =>
    refine ⟨?_, ?_, by show 1 ≤ 3; decide, by show 3 ≤ 4; decide⟩
    · rw [List.all_cons, List.all_cons, List.all_cons, v1 hx, v1 hy]
      decide +kernel
    · rw [show ([V.str "add", V.str x, V.str y].map flD) = [.str "add", .str x, .str y] from rfl, isStep_eq sh_add, items2, it_var, it_var, hx, hy]
      rfl
  | @skip x i hx hi =>
    refine ⟨?_, ?_, by show 1 ≤ 3; decide, by show 3 ≤ 4; decide⟩
    · rw [List.all_cons, List.all_cons, v1 hx]
      show (bare8 (.str "skip") && (true && true)) = true
      decide +kernel
    · rw [show ([V.str "skip", V.str x, V.int i].map flD) = [.str "skip", .str x, .int i] from rfl, isStep_eq sh_skip, items2, it_var, it_len, hx]
      show (decide (2 = 2) && (true && (isInteger (.int i) && decide (1 ≤ i)))) = true
      rw [decide_eq_true hi]
      rfl
theorem before_plain {us : List V} (h : PlainV us) (a : Int) (hs : ∀ x i, us = [.str "skip", .str x, .int i] → i ≤ a) : isBefore (.tuple (us.map flD)) a = true := by
  unfold isBefore
  rw [(plain_stepV h).step, Bool.true_and]
  cases h with
  | @set x i hx =>
    show skipOk a (.tuple (.str "set" :: _)) = true
    unfold skipOk
    rw [skipLen_ne ne_st]
  | @add x y hx hy =>
    show skipOk a (.tuple (.str "add" :: _)) = true
    unfold skipOk
    rw [skipLen_ne (by decide +kernel)]
  | @skip x i hx hi =>
    show decide (i ≤ a) = true
    exact decide_eq_true (hs x i rfl)
theorem Drew.tps {p : Addr} {H H' : Hp} (d : Drew p H H') (hp : Pot H p) : Tps H H' := fun a xs h => d.at (fun e => by
  obtain ⟨x, y, z, _⟩ := hp
  rw [e, z] at h
  cases h) h
theorem ex_but {l : List Addr} {H0 H H' : Hp} (e : Ex H0 H) (b : But l H H') (n : ∀ a ∈ l, H0 a = none) : Ex H0 H' := fun a o h => b a o (fun z => by rw [n a z] at h; cases h) (e a o h)
/-- what stood ahead of the pot stands -/
theorem Drew.old {p : Addr} {H0 H H' : Hp} (d : Drew p H H') (e : Ex H0 H) (n : H0 p = none) : Ex H0 H' := fun a o h => d.at (fun z => by rw [z, n] at h; cases h) (e a o h)

section
variable {P : Program} {w : World} {K : PySem.W.Frag} {mg : Str → Option Value} {base : Heap}
theorem pick_var {o p : Addr} {H : Hp} {Q : VK} (pot : Pot H p) (on : o ≠ p) (ho : H o = some (.lst [.str "a", .str "b", .str "c", .str "d"])) (q : ∀ x H', isVar (.str x) = true → Drew p H H' → Q (.str x) H') : spChoice [.ref p, .ref o] H Q E0 := by
  refine ⟨p, pot, .inl ⟨o, _, rfl, on, ho, by show 0 < 4; decide, by show 4 ≤ 1000; decide, fun v H' hv r => ?_⟩⟩
  simp only [List.mem_cons, List.not_mem_nil, or_false] at hv
  rcases hv with rfl | rfl | rfl | rfl <;> exact q _ H' (by decide +kernel) r
end
end Cr
namespace Cr
open PySem PySem.Spec PyProof.Rows L2 Evl
abbrev sName : Stmt := topS 37
abbrev sNames : Stmt := topS 38
abbrev nName : List Str := ["_law_pot_here", "_law_used", "_law_letters", "_law_word", "_law_some", "_law_turn", "_law_k", "_law_one"]
abbrev nNames : List Str := ["_law_pot_here", "_law_many", "_law_found", "_law_turn"]
theorem scName : FnScope nName ["_law_pot_here", "_law_used"] (defScope sName) := ⟨rfl, rfl, rfl, by decide +kernel, rfl, by decide +kernel, by decide +kernel⟩
theorem scNames : FnScope nNames ["_law_pot_here", "_law_many"] (defScope sNames) := ⟨rfl, rfl, rfl, by decide +kernel, rfl, by decide +kernel, by decide +kernel⟩
section
variable {P : Program} {w : World} {K : PySem.W.Frag} {mg : Str → Option Value} {base : Heap}
theorem ok_name {f : Addr} {fd : FuncData} {k : Nat} (F : Fun K "_law_name" "_law_name" sName f fd) (B : Blt mg) (D : Has P w K mg base k "_law_draw" ["_law_pot_here", "_law_bound"] spDraw) :
    FnG P w K mg base CX0 (k + 1) f fd ["_law_pot_here", "_law_used"] spName := by
  obtain ⟨fD, fdD, GD, bD, kD, gD⟩ := D.ex
  refine okG F scName (fun vs H Q E h => by obtain ⟨_, _, _, rfl, _⟩ := h; rfl) (fun cdv A outer s H vs Q E hq hr h => ?_)
  obtain ⟨p, u, us, rfl, pot, un, hu, hl, q⟩ := h
  refine ⟨_, pss_cons (ps_set (i := 2) scName.nd rfl (.inr rfl) pe_str)
    (pss_cons (ps_set (i := 3) scName.nd rfl (.inl rfl) (pe_join pe_str (pe_lc (own := [("_law_turn", 5)]) (g := gName 5) (tt := tYes) rfl scName.nd (pi_range1 (by rfl) B.range (pa_cons (pe_ix ix_list (pe_lst (pa_cons pe_int (pa_cons pe_int (pa_cons pe_int (pa_cons pe_int pa_nil))))) (callG GD hq hr (by rfl) gD kD bD .nil pass0 (pa_cons (pv 0) (pa_cons pe_int pa_nil))) (fun _ _ => rfl)) pa_nil)) (blkOk_by (own := [("_law_turn", 5)]) (N := nName) (sc := defScope sName) (by decide +kernel))
        (fun _ _ _ _ _ => pg_name (i := 5) scName.nd rfl (Or.inl rfl)) (fun _ _ _ _ _ => pts_nil) (fun _ _ _ _ _ => pe_ix ix_str (pv 2) (callG GD hq hr (by rfl) gD kD bD .nil pass0 (pa_cons (pv 0) (pa_cons pe_int pa_nil))) (fun _ _ => rfl)))))
    (pss_cons (ps_if (pt_cmpR op_in_seq (pv 3) (pv 1) (by rfl))
      (pss_cons (ps_setLc (i := 4) (own := [("_law_k", 6)]) (g := gName 6) (tt := tYes) rfl scName.nd rfl rfl (sw_true rfl rfl rfl (by decide +kernel)) (pi_range1 (by rfl) B.range (pa_cons pe_int pa_nil)) (blkOk_by (own := [("_law_k", 6)]) (N := nName) (sc := defScope sName) (by decide +kernel))
        (fun _ _ _ _ _ => pg_name (i := 6) scName.nd rfl (Or.inl rfl)) (fun _ _ _ _ _ => pts_nil)
        (fun _ _ _ _ _ => pe_op op_add_str (pe_op op_add_str (pe_ix ix_str (pv 2) (pe_op op_fdiv (pv 6) pe_int) (fun _ _ => rfl)) (pe_ix ix_str (pv 2) (pe_op op_mod (pv 6) pe_int) (fun _ _ => rfl))) pe_str))
      (pss_one (ps_ret (pe_ix ix_list (pe_lc (own := [("_law_one", 7)]) (g := gName 7) (tt := tTest (tOp (rIn K true) (tVar 7) (tVar 1))) rfl scName.nd (pi_list (pv 4)) (blkOk_by (own := [("_law_one", 7)]) (N := nName) (sc := defScope sName) (by decide +kernel))
        (fun _ _ _ _ _ => pg_name (i := 7) scName.nd rfl (Or.inl rfl)) (fun _ _ _ _ _ => by exact pts_one (pt_cmpR op_notIn_seq (pv 7) (pv 1) (by rfl))) (fun _ _ _ _ _ => pv 7)) pe_int (fun _ _ => rfl))))) pss_nil)
    (pss_one (ps_ret (pv 3))))), ?_⟩
  refine q_asg ev_c fun H0 e0 => ?_
  have r0 : Drew p H H0 := Drew.of pot e0
  refine q_asgAny ⟨⟨"", rfl⟩, by show 4 ≤ sizeLine; decide, fun o ho => ?_⟩
  have on : o ≠ p := r0.neq ho
  have r1 : Drew p H (upd H0 o (.lst [.int 1, .int 1, .int 2, .int 8])) := r0.new ho
  refine ⟨.ref p, rfl, p, 4, rfl, by decide, by decide +kernel, r1.pot, fun d2 H2 a2 b2 r2 => ?_⟩
  obtain ⟨sz, hsz, s1, s8⟩ : ∃ sz : Nat, atI [V.int 1, V.int 1, V.int 2, V.int 8] d2 = some (.int (sz : Int)) ∧ 1 ≤ sz ∧ sz ≤ 8 := by
    obtain ⟨j, rfl⟩ := Int.eq_ofNat_of_zero_le a2
    have hj : j = 0 ∨ j = 1 ∨ j = 2 ∨ j = 3 := by omega
    rcases hj with rfl | rfl | rfl | rfl
    · exact ⟨1, atI_nat rfl, by omega, by omega⟩
    · exact ⟨1, atI_nat rfl, by omega, by omega⟩
    · exact ⟨2, atI_nat rfl, by omega, by omega⟩
    · exact ⟨8, atI_nat rfl, by omega, by omega⟩
  have r12 := r1.trans r2
  refine ⟨o, _, d2, .int sz, rfl, rfl, sq_of (r2.at on upd_same), hsz, sz, rfl, by omega, by omega, fun Dl hD => ?_⟩
  have Dn : Dl ≠ p := r12.neq hD
  have HD : H Dl = none := fresh_drew r12 pot hD
  refine lc_range (lo := 0) (n := (sz : Int).toNat) (fun i H3 => ∃ ws : List Str, H3 Dl = some (.lst (ws.map V.str)) ∧ ws.length = i ∧ (∀ w ∈ ws, isOne w) ∧ Drew p H H3)
    ⟨[], upd_same, rfl, by simp, r12.mut HD Dn⟩ (fun i H3 hi hP => ?_) (fun H3 hP => ?_)
  · obtain ⟨ws, hw, hlw, hone, dr⟩ := hP
    refine ⟨rfl, .str abc, rfl, .ref p, rfl, p, 26, rfl, by decide, by decide +kernel, dr.pot, fun d H4 da db dr4 => ?_⟩
    obtain ⟨j, rfl⟩ := Int.eq_ofNat_of_zero_le da
    have hj : j < 26 := by omega
    refine ⟨abc, (j : Int), 97 + j, rfl, rfl, by decide +kernel, atI_nat (abc_get j hj), ws.map V.str, dr4.at Dn hw, sz_lt (by rw [List.length_map]; omega), ws ++ [⟨#[97 + j]⟩], ?_, by simp [hlw], ?_, (dr.trans dr4).mut HD Dn⟩
    · rw [upd_same, List.map_append]; rfl
    · intro w hw'
      rcases List.mem_append.mp hw' with z | z
      · exact hone w z
      · rw [List.mem_singleton.mp z]
        exact ⟨97 + j, rfl, low_of hj⟩
  obtain ⟨ws, hw, hlw, hone, dr⟩ := hP
  obtain ⟨cs, ecs, lcs, hcs⟩ := join_ones hone
  have nm : isNameS (Txt.join "" ws) = true := name_of ((join_cps ws).trans ecs) (by omega) (by omega) hcs
  have lone : ∀ {ws : List Str}, (∀ w ∈ ws, isOne w) → (ws.map (·.length)).sum = ws.length := by
    intro ws
    induction ws with
    | nil => intro _; rfl
    | cons x r ih =>
      intro h
      obtain ⟨c, rfl, _⟩ := h _ (List.mem_cons_self ..)
      rw [List.map_cons, List.sum_cons, ih fun w hw => h w (List.mem_cons_of_mem _ hw), List.length_cons]
      show 1 + r.length = r.length + 1
      omega
  refine ⟨"", Dl, ws, rfl, rfl, .inl (sq_of hw), ?_, ?_⟩
  · have e0 : (("" : Str)).length = 0 := by decide +kernel
    rw [lone hone, e0]
    omega
  generalize hx : Txt.join ("" : Str) ws = x at nm
  have hu4 := dr.at un hu
  refine q_when (σ := [some (.ref p), some (.ref u), some (.str abc), some (.str x), none, none, none, none]) (et_test (ev_op (ev_var rfl) (ev_var rfl) (rv_isL (sq_of hu4) rfl (flat_strs _)))) (fun hb H5 e5 => ?_) (fun hb H5 e5 => s_ret (ev_var rfl) fun H6 e6 => q x H6 nm (dr.trans (Drew.of dr.pot (e5.trans e6))))
  -- the spare ones
  have lc1 := el_lcW (wi := iRng1 (tCons (tC (.int 200)) tNil)) (g := gName 6) (tt := tYes) (te := tOp _ (tOp _ (tOp rIxS (tVar 2) (tOp (rI CDiv fun i j => .int (i / j)) (tVar 6) (tC (.int 26)))) (tOp rIxS (tVar 2) (tOp (rI (fun _ j => 0 < j) fun i j => .int (i % j)) (tVar 6) (tC (.int 26))))) (tC (.str "q"))) (vs := [6])
    (σ := [some (.ref p), some (.ref u), some (.str abc), some (.str x), none, none, none, none]) (H := H5) (n := 200) (Y := YFn fun i => .int (0 + i)) (fun _ => true) (fun i => .str (spare i)) (by decide)
    (fun H6 e6 R r => ⟨200, rfl, by decide, by decide, r H6 _ _ walk_range (fun _ _ _ z => z) (Ex.refl H6) trivial⟩)
    (fun i y H6 H7 e6 hi hy => by
      obtain ⟨rfl, rfl⟩ := hy
      refine ⟨Ex.refl _, [some (.ref p), some (.ref u), some (.str abc), some (.str x), none, none, some (.int (0 + i)), none], rfl, fun R r => r, fun H8 _ Q q => q H8 (Ex.refl H8), fun _ => ?_⟩
      have e0 : (0 : Int) + (i : Int) = (i : Int) := Int.zero_add _
      rw [e0]
      have ed : ((i : Int) / 26) = ((i / 26 : Nat) : Int) := by omega
      have em : ((i : Int) % 26) = ((i % 26 : Nat) : Int) := by omega
      have i1 : i / 26 < 26 := by omega
      have i2 : i % 26 < 26 := by omega
      refine ev_op (r := fun x y H Q => ∃ i j, x = .str i ∧ y = .str j ∧ i.length + j.length ≤ sizeLine ∧ Q (.str (i ++ j)) H) (x := .str (⟨#[97 + i / 26]⟩ ++ ⟨#[97 + i % 26]⟩))
        (ev_op (r := fun x y H Q => ∃ i j, x = .str i ∧ y = .str j ∧ i.length + j.length ≤ sizeLine ∧ Q (.str (i ++ j)) H)
          (ev_op (ev_var rfl) (ev_op (ev_var rfl) ev_c (rv_I ⟨by decide, by decide⟩)) (rv_ixS (by decide +kernel) (by rw [ed]; exact atI_nat (abc_get _ i1))))
          (ev_op (ev_var rfl) (ev_op (ev_var rfl) ev_c (rv_I (C := fun _ j => 0 < j) (by decide))) (rv_ixS (by decide +kernel) (by rw [em]; exact atI_nat (abc_get _ i2))))
          (rv_val fun H8 _ Q q => ⟨_, _, rfl, rfl, by show 2 ≤ sizeLine; decide, q⟩)) ev_c (rv_val fun H8 _ Q q => ⟨_, _, rfl, rfl, by show 3 ≤ sizeLine; decide, q⟩))
  have eg1 : given 200 (fun _ => true) (fun i => V.str (spare i)) = ((List.range 200).map spare).map V.str := by
    rw [given_all, List.map_map]; rfl
  rw [eg1] at lc1
  refine q_asgL lc1 fun L H6 hL e6 h6 => ?_
  have hu6 := e6 _ _ (e5 _ _ hu4)
  have lc2 := el_lcW (wi := iList K (tVar 4)) (g := gName 7) (tt := tTest (tOp (rIn K true) (tVar 7) (tVar 1))) (te := tVar 7) (vs := [7])
    (σ := [some (.ref p), some (.ref u), some (.str abc), some (.str x), some (.ref L), none, none, none]) (H := H6) (n := 200) (Y := YAt (((List.range 200).map spare).map V.str)) (fun i => !inV (.str (spare i)) (us.map V.str)) (fun i => .str (spare i)) (by decide)
    (fun H7 e7 R r => ⟨.ref L, rfl, L, rfl, ⟨_, sq_of (e7 _ _ h6)⟩, r H7 _ _ (by have z := walk_list (K := K) (a := L) (xs := ((List.range 200).map spare).map V.str); rw [List.length_map, List.length_map, List.length_range] at z; exact z) (fun _ _ e z => ex_l e z) (Ex.refl H7) (sq_of (e7 _ _ h6))⟩)
    (fun i y H7 H8 e7 hi hy => by
      obtain ⟨rfl, hy⟩ := hy
      have ey : y = .str (spare i) := by
        rw [List.getElem?_map, List.getElem?_map, List.getElem?_range hi] at hy
        exact (Option.some.inj hy).symm
      subst ey
      exact ⟨Ex.refl _, [some (.ref p), some (.ref u), some (.str abc), some (.str x), some (.ref L), none, none, some (.str (spare i))], rfl, fun R r => r, et_test (ev_op (ev_var rfl) (ev_var rfl) (rv_niL (sq_of (e7 _ _ hu6)) rfl (flat_strs _))), fun _ => ev_var rfl⟩)
  obtain ⟨i0, hi0, fi0⟩ := spare_free hl
  have mem : V.str (spare i0) ∈ given 200 (fun i => !inV (.str (spare i)) (us.map V.str)) (fun i => .str (spare i)) := by
    unfold given
    refine List.mem_map.mpr ⟨i0, List.mem_filter.mpr ⟨List.mem_range.mpr (by omega), ?_⟩, rfl⟩
    rw [Bool.not_eq_true']
    exact Bool.eq_false_iff.mpr fun z => fi0 (inV_mem.mp z)
  cases eg : given 200 (fun i => !inV (.str (spare i)) (us.map V.str)) (fun i => V.str (spare i)) with
  | nil => rw [eg] at mem; cases mem
  | cons y r =>
    have hy : y ∈ given 200 (fun i => !inV (.str (spare i)) (us.map V.str)) (fun i => V.str (spare i)) := by rw [eg]; exact List.mem_cons_self ..
    unfold given at hy
    obtain ⟨i1, h1, rfl⟩ := List.mem_map.mp hy
    have hi1 : i1 < 200 := List.mem_range.mp (List.mem_filter.mp h1).1
    rw [eg] at lc2
    refine s_ret (ev_opL1 lc2 (fun _ _ => ev_c) fun p2 H7 hp2 _ => rv_ixL (sq_of hp2) (atI_nat (j := 0) rfl)) fun H7 e7 => ?_
    exact q _ H7 (spare_name i1 (by omega)) (dr.trans (Drew.of dr.pot ((e5.trans e6).trans e7)))
theorem ok_names {f : Addr} {fd : FuncData} {k : Nat} (F : Fun K "_law_names" "_law_names" sNames f fd) (B : Blt mg) (N : Has P w K mg base k "_law_name" ["_law_pot_here", "_law_used"] spName) :
    FnG P w K mg base CX0 (k + 1) f fd ["_law_pot_here", "_law_many"] spNames := by
  obtain ⟨fN, fdN, GN, bN, kN, gN⟩ := N.ex
  refine okG F scNames (fun vs H Q E h => by obtain ⟨_, _, rfl, _⟩ := h; rfl) (fun cdv A outer s H vs Q E hq hr h => ?_)
  obtain ⟨p, n, rfl, pot, hn, q⟩ := h
  refine ⟨_, pss_cons (ps_set (i := 2) scNames.nd rfl (.inl rfl) (pe_lst pa_nil))
    (pss_cons (ps_for PassesOwn.never rfl (pi_range1 (by rfl) B.range (pa_cons (pv 1) pa_nil)) (pg_name (i := 3) scNames.nd rfl (.inl rfl))
      (pss_one (ps_expr (pe_bm PySem.F.plainAttrs_list PySem.F.slot_list_append PySem.F.type_list_append mt_append (pv 2) (pa_cons (callG GN hq hr (by rfl) gN kN bN .nil pass0 (pa_cons (pv 0) (pa_cons (pv 2) pa_nil))) pa_nil)))))
    (pss_one (ps_ret (pv 2)))), ?_⟩
  refine ⟨Nat.zero_le _, fun l hl => ?_⟩
  have d0 : Drew p H (upd H l (.lst [])) := Drew.of pot (Ex.new hl)
  have ln : l ≠ p := (Drew.refl pot).neq hl
  refine ⟨.int n, rfl, n, rfl, by omega, by omega, for_range (lo := 0) (n := (n : Int).toNat) (fun i σ H' => ∃ y3 xs, σ = [some (.ref p), some (.int n), some (.ref l), y3] ∧ H' l = some (.lst ((xs : List Str).map V.str)) ∧ xs.length = i ∧ (∀ x ∈ xs, isNameS x = true) ∧ Drew p H H')
    ⟨none, [], rfl, upd_same, rfl, by simp, d0⟩ (fun i σ H1 hi hP => ?_) (fun σ H1 hP => ?_)⟩
  · obtain ⟨y3, xs, rfl, h1, lx, hx, dr⟩ := hP
    refine ⟨.ref l, rfl, .inl ⟨rfl, _, sq_of h1⟩, .ref p, rfl, .ref l, rfl, p, l, xs, rfl, dr.pot, ln, h1, by omega, fun x H2 nx dr2 => ?_⟩
    refine ⟨l, _, .str x, rfl, rfl, dr2.at ln h1, sz_lt (by rw [List.length_map]; omega), _, xs ++ [x], rfl, ?_, by simp [lx], ?_, (dr.trans dr2).mut hl ln⟩
    · rw [upd_same, List.map_append]; rfl
    · intro y hy
      rcases List.mem_append.mp hy with z | z
      · exact hx y z
      · rw [List.mem_singleton.mp z]; exact nx
  · obtain ⟨y3, xs, rfl, h1, lx, hx, dr⟩ := hP
    exact ⟨.ref l, rfl, q l xs H1 hl h1 (by omega) hx dr⟩
end
end Cr
namespace Cr
open PySem PySem.Spec PyProof.Rows L2 Evl
abbrev sStep : Stmt := topS 39
abbrev sProg : Stmt := topS 40
abbrev nStep : List Str := ["_law_pot_here", "_law_targets", "_law_after", "_law_is_top", "_law_way", "_law_x", "_law_target"]
abbrev nProg : List Str := ["_law_pot_here", "_law_targets", "_law_size", "_law_is_top", "_law_k"]
theorem scStep : FnScope nStep ["_law_pot_here", "_law_targets", "_law_after", "_law_is_top"] (defScope sStep) := ⟨rfl, rfl, rfl, by decide +kernel, rfl, by decide +kernel, by decide +kernel⟩
theorem scProg : FnScope nProg ["_law_pot_here", "_law_targets", "_law_size", "_law_is_top"] (defScope sProg) := ⟨rfl, rfl, rfl, by decide +kernel, rfl, by decide +kernel, by decide +kernel⟩
def isSI : V → Bool
  | .str _ => true
  | .int _ => true
  | _ => false
theorem dV_SI : ∀ {us : List V}, us.all isSI = true → (us.map flD).map dV = us
  | [], _ => rfl
  | v :: r, h => by
    rw [List.all_cons, Bool.and_eq_true] at h
    rw [List.map_cons, List.map_cons, dV_SI h.2]
    cases v with
    | str x => rfl
    | int i => rfl
    | _ => exact nomatch h.1
theorem stepV_ok {us : List V} (h : StepOk us) (hk : us.all isSI = true) : StepV us ∧ intsIn us := by
  obtain ⟨vs, e, sv⟩ := step_bare h.step
  have e1 := PyData.tuple.inj e
  have hv : vs.all isSI = true := List.all_eq_true.mpr fun v hv => by
    have b := List.all_eq_true.mp sv.bare v hv
    cases v <;> first | rfl | exact nomatch b
  have eq : us = vs := by rw [← dV_SI hk, ← dV_SI hv, e1]
  refine ⟨eq ▸ sv, fun i hi => ?_⟩
  have z := List.all_eq_true.mp h.leaf _ hi
  exact of_decide_eq_true z
theorem before_ne {z : Str} {ds : List PyData} (a : Int) (h : isStep (.tuple (.str z :: ds)) = true) (hz : z ≠ "skip") : isBefore (.tuple (.str z :: ds)) a = true := by
  unfold isBefore skipOk
  rw [h, skipLen_ne hz]
  rfl
theorem name_strOk {x : Str} (h : isNameS x = true) : PyData.strOk x = true := by
  unfold isNameS at h
  simp only [Bool.and_eq_true, decide_eq_true_eq] at h
  unfold PyData.strOk
  rw [Array.all_eq_true_iff_forall_mem]
  intro c hc
  have y := List.all_eq_true.mp h.2 c (by simpa using hc)
  unfold isLow at y
  simp only [Bool.and_eq_true, decide_eq_true_eq] at y
  exact decide_eq_true (by omega)
theorem names_lay : ∀ ts : List Str, (∀ x ∈ ts, isNameS x = true) → PyData.canLay0 (.list (ts.map PyData.str)) = true := by
  intro ts hn
  rw [PyData.canLay0]
  induction ts with
  | nil => rfl
  | cons t r ih =>
    rw [List.map_cons, PyData.canLayAll0, ih fun x hx => hn x (List.mem_cons_of_mem _ hx), PyData.canLay0, name_strOk (hn t List.mem_cons_self)]
    rfl
theorem names_deep (ts : List Str) : PyData.depthAll (ts.map PyData.str) = 0 := by
  induction ts with
  | nil => rfl
  | cons t r ih => rw [List.map_cons, PyData.depthAll, ih]; rfl
theorem dp_names {K : PySem.W.Frag} {H : Hp} : ∀ ts : List Str, DpAll K H (ts.map V.str) (ts.map PyData.str)
  | [] => .nil
  | t :: r => .cons (.str t) (dp_names r)
/-- a step is drawn -/
def spStepF : Sp := fun vs H Q _ => ∃ (p tg : Addr) (ts : List Str) (a : Nat) (top : Bool), vs = [.ref p, .ref tg, .int (a : Int), .bl top] ∧ Pot H p ∧ tg ≠ p ∧ H tg = some (.lst (ts.map V.str)) ∧ 1 ≤ ts.length ∧ ts.length ≤ 100 ∧ (∀ x ∈ ts, isNameS x = true) ∧ a ≤ 100 ∧
  ∀ t us H', H t = none → H' t = some (.tup us) → StepV us → intsIn us → isBefore (.tuple (us.map flD)) (a : Int) = true → Drew p H H' → Q (.ref t) H'
section
variable {P : Program} {w : World} {K : PySem.W.Frag} {mg : Str → Option Value} {base : Heap}
theorem ev_neNil {σ : L2.St} {H : Hp} {tg : Addr} {ts : List Str} {i : Nat} (hσ : σ[i]? = some (some (.ref tg))) (h : H tg = some (.lst (ts.map V.str))) (h1 : 1 ≤ ts.length) (hn : ∀ x ∈ ts, isNameS x = true) : Ev (tOp (rNeD K) (tVar i) (tLst tNil)) σ H (.bl true) := by
  refine ev_opL (xs := []) (ev_var hσ) (el_lst ea_nil (Nat.zero_le _)) fun q H1 hq e1 => ?_
  intro H2 e2 Q q'
  refine ⟨.list (ts.map .str), .list [], .lst (sq_of (e2 _ _ (e1 _ _ h))) (dp_names ts), .lst (sq_of (e2 _ _ hq)) .nil, ?_, by decide +kernel, ?_⟩
  · show (PyData.canLay0 _ && decide (PyData.depth _ ≤ 64)) = true
    rw [names_lay ts hn, Bool.true_and, PyData.depth, names_deep]
    rfl
  · have e : (!PyData.eqv (.list (ts.map .str)) (.list [])) = true := by
      cases ts with
      | nil => simp at h1
      | cons t r => rfl
    rw [e]
    exact q' H2 (Ex.refl H2)
theorem ok_step {f : Addr} {fd : FuncData} {k : Nat} (F : Fun K "_law_step" "_law_step" sStep f fd) (B : Blt mg) (D : Has P w K mg base k "_law_draw" ["_law_pot_here", "_law_bound"] spDraw) (C : Has P w K mg base k "_law_pick" ["_law_pot_here", "_law_options"] spChoice) :
    FnG P w K mg base CX0 (k + 1) f fd ["_law_pot_here", "_law_targets", "_law_after", "_law_is_top"] spStepF := by
  obtain ⟨fD, fdD, GD, bD, kD, gD⟩ := D.ex
  obtain ⟨fC, fdC, GC, bC, kC, gC⟩ := C.ex
  refine okG F scStep (fun vs H Q E h => by obtain ⟨_, _, _, _, _, rfl, _⟩ := h; rfl) (fun cdv A outer s H vs Q E hq hr h => ?_)
  obtain ⟨p, tg, ts, a, top, rfl, pot, tn, htg, t1, t10, hts, ha, q⟩ := h
  refine ⟨_, pss_cons (ps_par (i := 4) (j := 5) (by rfl) scStep.nd rfl rfl (by decide) rfl rfl (pa_cons (callG GD hq hr (by rfl) gD kD bD .nil pass0 (pa_cons (pv 0) (pa_cons pe_int pa_nil))) (pa_cons (callG GC hq hr (by rfl) gC kC bC .nil pass0 (pa_cons (pv 0) (pa_cons (pe_lst (pa_cons pe_str (pa_cons pe_str (pa_cons pe_str (pa_cons pe_str pa_nil))))) pa_nil))) pa_nil)) (by rfl))
    (pss_cons (ps_if (PW.pt (pw_and (pt_cmpR op_lt (pv 4) pe_int (nomark _)) (pw_and1 (pt_cmpR (op_neD hr.units) (pv 1) (pe_lst pa_nil) (nomark _)))))
      (pss_cons (ps_set (i := 6) scStep.nd rfl (.inl rfl) (callG GC hq hr (by rfl) gC kC bC .nil pass0 (pa_cons (pv 0) (pa_cons (pv 1) pa_nil))))
      (pss_cons (ps_if (pt_cmpR op_eq (pv 4) pe_int (nomark _)) (pss_one (ps_ret (pe_tup (pa_cons pe_str (pa_cons (pv 5) (pa_cons (pv 6) (pa_cons (callG GC hq hr (by rfl) gC kC bC .nil pass0 (pa_cons (pv 0) (pa_cons (pe_lst (pa_cons pe_str (pa_cons pe_str pa_nil))) pa_nil))) pa_nil))))))) pss_nil)
      (pss_one (ps_ret (pe_ifExp (pt_cmpR op_lt (pv 4) pe_int (nomark _)) (pe_tup (pa_cons pe_str (pa_cons (pv 6) pa_nil))) (pe_tup (pa_cons pe_str (pa_cons (pv 6) (pa_cons (pv 5) pa_nil))))))))) pss_nil)
    (pss_cons (ps_if (PW.pt (pw_and (pt_cmpR op_in_seq (pv 4) (pe_tup (pa_cons pe_int (pa_cons pe_int pa_nil))) (by rfl)) (pw_and1 (pt_not (pt_val (pv 3))))))
      (pss_one (ps_ret (pe_tup (pa_cons pe_str (pa_cons (pe_ix ix_list (pe_lst (pa_cons pe_str (pa_cons pe_str pa_nil))) (pe_op op_sub (pv 4) pe_int) (fun _ _ => rfl)) (pa_cons (pv 5) pa_nil)))))) pss_nil)
    (pss_cons (ps_if (PW.pt (pw_and (pt_cmpR op_eq (pv 4) pe_int (nomark _)) (pw_and1 (pt_cmpR op_gt (pv 2) pe_int (nomark _)))))
      (pss_one (ps_ret (pe_tup (pa_cons pe_str (pa_cons (pv 5) (pa_cons (pe_op op_add pe_int (callG GD hq hr (by rfl) gD kD bD .nil pass0 (pa_cons (pv 0) (pa_cons (pe_callB (call_min2 rfl) (by rfl) B.min bMin (pa_cons pe_int (pa_cons (pv 2) pa_nil))) pa_nil)))) pa_nil)))))) pss_nil)
    (pss_cons (ps_if (pt_cmpR op_eq (pv 4) pe_int (nomark _))
      (pss_one (ps_ret (pe_tup (pa_cons pe_str (pa_cons (pv 5) (pa_cons (callG GC hq hr (by rfl) gC kC bC .nil pass0 (pa_cons (pv 0) (pa_cons (pe_lst (pa_cons pe_str (pa_cons pe_str (pa_cons pe_str (pa_cons pe_str pa_nil))))) pa_nil))) pa_nil)))))) pss_nil)
    (pss_one (ps_ret (pe_ifExp (PW.pt (pw_and (pt_cmpR op_eq (pv 4) pe_int (nomark _)) (pw_and1 (pt_cmpR op_eq (callG GD hq hr (by rfl) gD kD bD .nil pass0 (pa_cons (pv 0) (pa_cons pe_int pa_nil))) pe_int (nomark _))))) (pe_tup (pa_cons pe_str pa_nil))
      (pe_tup (pa_cons pe_str (pa_cons (pv 5) (pa_cons (pe_op op_sub (callG GD hq hr (by rfl) gD kD bD .nil pass0 (pa_cons (pv 0) (pa_cons pe_int pa_nil))) pe_int) pa_nil))))))))))), ?_⟩
  have e30 : (10 : Nat) ^ 30 = 1000000000000000000000000000000 := by decide
  -- the end of each way
  have out : ∀ {us : List V} {H' : Hp} {t : Addr}, StepOk us → us.all isSI = true → isBefore (.tuple (us.map flD)) (a : Int) = true → Drew p H H' → H' t = none → Q (.ref t) (upd H' t (.tup us)) := fun {us H' t} so si bf r zt =>
    q t us _ (fresh_drew r pot zt) upd_same (stepV_ok so si).1 (stepV_ok so si).2 bf (r.new zt)
  refine ⟨.ref p, rfl, p, 14, rfl, by decide, by decide +kernel, pot, fun d H1 d0 d14 r1 => ?_⟩
  refine ⟨.ref p, rfl, by show 4 ≤ sizeLine; decide, fun o ho => ?_⟩
  have r2 : Drew p H (upd H1 o (.lst [.str "a", .str "b", .str "c", .str "d"])) := r1.new ho
  refine pick_var r2.pot (r1.neq ho) upd_same fun x H3 hx r3 => ⟨.int d, .str x, rfl, ?_⟩
  have r13 := r2.trans r3
  have htg3 := r13.at tn htg
  refine q_when (b := decide (d < 6) && true) (et_and (et_test (ev_op (ev_var rfl) ev_c rv_I0)) fun _ => et_test (ev_neNil (σ := [some (.ref p), some (.ref tg), some (.int (a : Int)), some (.bl top), some (.int d), some (.str x), none]) rfl htg3 t1 hts)) (fun hb H4 e4 => ?_) (fun hb H4 e4 => ?_)
  · have r14 := r13.trans (Drew.of r13.pot e4)
    -- a module
    refine q_asgAny ⟨.ref p, rfl, .ref tg, rfl, p, r14.pot, .inl ⟨tg, _, rfl, tn, e4 _ _ htg3, by rw [List.length_map]; omega, by rw [List.length_map]; omega, fun v H5 hv r5 => ?_⟩⟩
    obtain ⟨mn, hmn, rfl⟩ := List.mem_map.mp hv
    have nm := hts mn hmn
    have r15 := r14.trans r5
    refine q_when (et_test (ev_op (ev_var rfl) ev_c (rv_eq rfl))) (fun hb2 H6 e6 => ?_) (fun hb2 H6 e6 => ?_)
    · have r16 := r15.trans (Drew.of r15.pot e6)
      refine ⟨.str x, rfl, .str mn, rfl, .ref p, rfl, by show 2 ≤ sizeLine; decide, fun o2 ho2 => ?_⟩
      have r17 : Drew p H (upd H6 o2 (.lst [.str "x", .str "y"])) := r16.new ho2
      refine ⟨p, r17.pot, .inl ⟨o2, _, rfl, r16.neq ho2, upd_same, by show 0 < 2; decide, by show 2 ≤ 1000; decide, fun v H7 hv r7 => ⟨by show 4 ≤ sizeLine; decide, fun t zt => ?_⟩⟩⟩
      obtain ⟨nn, rfl, hnn⟩ : ∃ nn, v = .str nn ∧ isNameS nn = true := by
        simp only [List.mem_cons, List.not_mem_nil, or_false] at hv
        rcases hv with rfl | rfl
        · exact ⟨"x", rfl, by decide +kernel⟩
        · exact ⟨"y", rfl, by decide +kernel⟩
      exact out (st_read hx nm hnn) rfl (before_ne _ (st_read hx nm hnn).step (by decide +kernel)) (r17.trans r7) zt
    · have r16 := r15.trans (Drew.of r15.pot e6)
      refine ev_op (ev_var rfl) ev_c rv_I0 H6 (Ex.refl H6) _ fun H7 e7 => ⟨_, rfl, ?_⟩
      have r17 := r16.trans (Drew.of r16.pot e7)
      by_cases h3 : d < 3
      · rw [decide_eq_true h3]
        exact ⟨.str mn, rfl, by show 2 ≤ sizeLine; decide, fun t zt => out (st_need nm) rfl (before_ne _ (st_need nm).step (by decide +kernel)) r17 zt⟩
      · rw [decide_eq_false h3]
        exact ⟨.str mn, rfl, .str x, rfl, by show 3 ≤ sizeLine; decide, fun t zt => out (st_try nm hx) rfl (before_ne _ (st_try nm hx).step (by decide +kernel)) r17 zt⟩
  have r14 := r13.trans (Drew.of r13.pot e4)
  refine q_when (b := inV (.int d) [.int 6, .int 7] && !top) (et_and (et_test (ev_inU (ev_var rfl) (eu_tup (ea_cons ev_c (ea_cons ev_c ea_nil)) (by show 2 ≤ 100000; decide)) rfl rfl)) fun _ => et_not (et_B (ev_var rfl))) (fun hb2 H5 e5 => ?_) (fun hb2 H5 e5 => ?_)
  · have r15 := r14.trans (Drew.of r14.pot e5)
    have hd : d = 6 ∨ d = 7 := by
      have z := (Bool.and_eq_true_iff.mp hb2).1
      have z' : ([V.int 6, V.int 7].any fun y => eqV y (.int d)) = true := z
      simp only [List.any_cons, List.any_nil, Bool.or_false, Bool.or_eq_true] at z'
      rcases z' with z' | z'
      · exact .inl (by have y : ((6 : Int) == d) = true := z'; rw [beq_iff_eq] at y; exact y.symm)
      · exact .inr (by have y : ((7 : Int) == d) = true := z'; rw [beq_iff_eq] at y; exact y.symm)
    refine ⟨by show 2 ≤ sizeLine; decide, fun o2 ho2 => ⟨.int d, rfl, d, 6, rfl, rfl, o2, [.str "x", .str "y"], d - 6, ?_⟩⟩
    have hG : (upd H5 o2 (.lst [.str "x", .str "y"])) o2 = some (.lst [.str "x", .str "y"]) := upd_same
    have r16 : Drew p H (upd H5 o2 (.lst [.str "x", .str "y"])) := r15.new ho2
    rcases hd with rfl | rfl
    · exact ⟨.str "x", rfl, rfl, sq_of hG, atI_nat (j := 0) rfl, .str x, rfl, by show 3 ≤ sizeLine; decide, fun t zt => out (st_export (by decide +kernel) hx) rfl (before_ne _ (st_export (m := "x") (by decide +kernel) hx).step (by decide +kernel)) r16 zt⟩
    · exact ⟨.str "y", rfl, rfl, sq_of hG, atI_nat (j := 1) rfl, .str x, rfl, by show 3 ≤ sizeLine; decide, fun t zt => out (st_export (by decide +kernel) hx) rfl (before_ne _ (st_export (m := "y") (by decide +kernel) hx).step (by decide +kernel)) r16 zt⟩
  have r15 := r14.trans (Drew.of r14.pot e5)
  refine q_when (b := decide (V.int d = V.int 8) && decide ((a : Int) > 0)) (et_and (et_test (ev_op (ev_var rfl) ev_c (rv_eq rfl))) fun _ => et_test (ev_op (ev_var rfl) ev_c rv_I0)) (fun hb3 H6 e6 => ?_) (fun hb3 H6 e6 => ?_)
  · have r16 := r15.trans (Drew.of r15.pot e6)
    have hpos : (a : Int) > 0 := of_decide_eq_true (Bool.and_eq_true_iff.mp hb3).2
    refine ⟨.str x, rfl, .ref p, rfl, .int (a : Int), rfl, 3, (a : Int), rfl, p, _, rfl, ?_, ?_, r16.pot, fun kk H7 k0 k1 r7 => ⟨1, kk, rfl, rfl, by show 3 ≤ sizeLine; decide, fun t zt => ?_⟩⟩
    · split <;> omega
    · have le : (if (a : Int) < 3 then (a : Int) else 3).natAbs ≤ 3 := by split <;> omega
      exact Nat.lt_of_le_of_lt (Nat.log2_le_self _) (by omega)
    · have kle : 1 + kk ≤ (a : Int) := by
        by_cases h3 : (a : Int) < 3
        · rw [if_pos h3] at k1; omega
        · rw [if_neg h3] at k1; omega
      have so : StepOk [.str "skip", .str x, .int (1 + kk)] := st_skip hx (by omega) (by rw [e30]; omega)
      refine out so rfl ?_ (r16.trans r7) zt
      unfold isBefore
      rw [so.step, Bool.true_and]
      show decide (1 + kk ≤ (a : Int)) = true
      exact decide_eq_true kle
  have r16 := r15.trans (Drew.of r15.pot e6)
  refine q_when (et_test (ev_op (ev_var rfl) ev_c (rv_eq rfl))) (fun hb4 H7 e7 => ?_) (fun hb4 H7 e7 => ?_)
  · have r17 := r16.trans (Drew.of r16.pot e7)
    refine ⟨.str x, rfl, .ref p, rfl, by show 4 ≤ sizeLine; decide, fun o2 ho2 => ?_⟩
    have r18 : Drew p H (upd H7 o2 (.lst [.str "a", .str "b", .str "c", .str "d"])) := r17.new ho2
    refine pick_var r18.pot (r17.neq ho2) upd_same fun y H8 hy r8 => ⟨by show 3 ≤ sizeLine; decide, fun t zt => ?_⟩
    exact out (st_add hx hy) rfl (before_ne _ (st_add hx hy).step (by decide +kernel)) (r18.trans r8) zt
  have r17 := r16.trans (Drew.of r16.pot e7)
  -- fail, or set
  have setW : ∀ {H8 : Hp}, Drew p H H8 → tTup (tCons (tC (.str "set")) (tCons (tVar 5) (tCons (tOp (rI0 fun i j => .int (i - j)) (tCall spDraw [] E0 (tCons (tVar 0) (tCons (tC (.int 9)) tNil))) (tC (.int 3))) tNil))) [some (.ref p), some (.ref tg), some (.int (a : Int)), some (.bl top), some (.int d), some (.str x), none] H8 Q := fun {H8} r8 => by
    refine ⟨.str x, rfl, .ref p, rfl, p, 9, rfl, by decide, by decide +kernel, r8.pot, fun i H9 i0 i9 r9 => ⟨i, 3, rfl, rfl, by show 3 ≤ sizeLine; decide, fun t zt => ?_⟩⟩
    have so : StepOk [.str "set", .str x, .int (i - 3)] := st_set hx (by rw [e30]; omega)
    exact out so rfl (before_ne _ so.step (by decide +kernel)) (r8.trans r9) zt
  refine ev_op (ev_var rfl) ev_c (rv_eq rfl) H7 (Ex.refl H7) _ fun H8 e8 => ⟨_, rfl, ?_⟩
  have r18 := r17.trans (Drew.of r17.pot e8)
  by_cases h10 : V.int d = V.int 10
  · rw [decide_eq_true h10]
    refine ⟨.ref p, rfl, p, 3, rfl, by decide, by decide +kernel, r18.pot, fun c H9 c0 c3 r9 => ⟨rfl, _, rfl, ?_⟩⟩
    have r19 := r18.trans r9
    by_cases hc : V.int c = V.int 0
    · rw [decide_eq_true hc]
      exact ⟨by show 1 ≤ sizeLine; decide, fun t zt => out st_fail rfl (before_ne _ st_fail.step (by decide +kernel)) r19 zt⟩
    · rw [decide_eq_false hc]
      exact setW r19
  · rw [decide_eq_false h10]
    exact setW r18
end
end Cr
namespace Cr
open PySem PySem.Spec PyProof.Rows L2 Evl
abbrev sKind : Stmt := topS 41
theorem scKind : FnScope ["_law_e"] ["_law_e"] (defScope sKind) := ⟨rfl, rfl, rfl, by decide +kernel, rfl, by decide +kernel, by decide +kernel⟩
/-- the errors of a frame, and the classes that they are asked for -/
structure Kinds (K : PySem.W.Frag) (mg : Str → Option Value) (CW CP CN CL CT CS CD : Addr) : Prop where
  gW : mg "WrongStep" = some (.ref CW)
  gP : mg "InvalidProgram" = some (.ref CP)
  gN : mg "InvalidNumber" = some (.ref CN)
  gL : mg "LoaderError" = some (.ref CL)
  gT : mg "InvalidText" = some (.ref CT)
  gS : mg "WrongState" = some (.ref CS)
  gD : mg "NoNeed" = some (.ref CD)
  eW : ExcC K CW
  eP : ExcC K CP
  eN : ExcC K CN
  xW : XfC K CW
  xP : XfC K CP
  pW : PySem.W.findIn K (.ref CW) "position" = some none
  pP : PySem.W.findIn K (.ref CP) "position" = some none
  ww : PySem.W.kitOne K (.ref CW) (.ref CW) = some true
  wr : PySem.W.kitOne K (.ref CW) (.type "RuntimeError") = some true
  wl : PySem.W.kitOne K (.ref CW) (.ref CL) = some false
  ws : PySem.W.kitOne K (.ref CW) (.ref CS) = some false
  pw : PySem.W.kitOne K (.ref CP) (.ref CW) = some false
  pp : PySem.W.kitOne K (.ref CP) (.ref CP) = some true
  pl : PySem.W.kitOne K (.ref CP) (.ref CL) = some true
  pn : PySem.W.kitOne K (.ref CP) (.ref CN) = some false
  pt : PySem.W.kitOne K (.ref CP) (.ref CT) = some false
  nw : PySem.W.kitOne K (.ref CN) (.ref CW) = some false
  np : PySem.W.kitOne K (.ref CN) (.ref CP) = some false
  nl : PySem.W.kitOne K (.ref CN) (.ref CL) = some true
  nt : PySem.W.kitOne K (.ref CN) (.ref CT) = some false
  nd : PySem.W.kitOne K (.ref CN) (.ref CD) = some false
  mW : PySem.W.exmOne K (.ref CW) (.ref CW) = some true
  mWN : PySem.W.exmOne K (.ref CW) (.ref CN) = some false
  mN : PySem.W.exmOne K (.ref CN) (.ref CN) = some true
  mNW : PySem.W.exmOne K (.ref CN) (.ref CW) = some false
  mP : PySem.W.exmOne K (.ref CP) (.ref CP) = some true
def spKind (CW CP CN : Addr) : SpE := fun cls d a vs H Q => vs = [.ref a] ∧
  ((cls = .ref CW ∧ ∃ (dd : Addr) (i : Int), d = some dd ∧ H dd = some (.xd [("position", .int i)]) ∧ ∀ L H', H L = none → Ex H H' → H' L = some (.lst [.str "step", .int i, .bl true]) → Q (.ref L) H') ∨
   (cls = .ref CP ∧ ∃ (dd : Addr) (i : Int), d = some dd ∧ H dd = some (.xd [("position", .int i)]) ∧ ∀ L H', H L = none → Ex H H' → H' L = some (.lst [.str "program", .int i, .bl true]) → Q (.ref L) H') ∨
   (cls = .ref CN ∧ d = none ∧ ∀ L H', H L = none → Ex H H' → H' L = some (.lst [.str "number", .bl true]) → Q (.ref L) H'))
section
variable {P : Program} {w : World} {K : PySem.W.Frag} {mg : Str → Option Value} {base : Heap}
theorem ok_kind {f CW CP CN CL CT CS CD : Addr} {fd : FuncData} {k : Nat} (F : Fun K "_law_kind" "_law_kind" sKind f fd) (B : Blt mg) (T : Kinds K mg CW CP CN CL CT CS CD) :
    FnE P w K mg base (k + 1) f fd ["_law_e"] (spKind CW CP CN) := by
  refine okE F scKind (fun cls d a vs H Q h => by obtain ⟨rfl, _⟩ := h; rfl) (fun cdv A outer s H vs Q a oe cls d hz hf h => ?_)
  obtain ⟨rfl, h⟩ := h
  obtain ⟨D, rfl, ec, hdd⟩ : ∃ D, cls = .ref D ∧ ExcC K D ∧ ∀ dd, d = some dd → ∃ fs, H dd = some (.xd fs) := by
    rcases h with ⟨e, dd, i, ed, hd, _⟩ | ⟨e, dd, i, ed, hd, _⟩ | ⟨e, ed, _⟩
    · exact ⟨CW, e, T.eW, fun z hz => by rw [ed] at hz; cases hz; exact ⟨_, hd⟩⟩
    · exact ⟨CP, e, T.eP, fun z hz => by rw [ed] at hz; cases hz; exact ⟨_, hd⟩⟩
    · exact ⟨CN, e, T.eN, fun z hz => by rw [ed] at hz; cases hz⟩
  have hp : (a, oe) ∈ (L2H.cxH CX0 P w K mg base ["_law_e"] "_law_kind" (defScope sKind) f cdv A outer s H E0 (a, oe)).pn := List.mem_singleton.mpr rfl
  have isi : CallR (L2H.cxH CX0 P w K mg base ["_law_e"] "_law_kind" (defScope sKind) f cdv A outer s H E0 (a, oe)) (.builtin "isinstance") (rIsP K D a d) := call_isP ec hp hz hf
  refine ⟨_, pss_cons (ps_if (pt_val (pe_callB isi (by rfl) B.isi bIsi (pa_cons (pv 0) (pa_cons (pe_glob (v := .ref CW) (by rfl) T.gW rfl) pa_nil)))) (pss_one (ps_ret (pe_lst (pa_cons pe_str (pa_cons (pe_xp T.xW T.pW hp hz hf (pv 0))
      (pa_cons (pe_and (pe_callB isi (by rfl) B.isi bIsi (pa_cons (pv 0) (pa_cons (pe_bltn (v := .ty "RuntimeError") (by rfl) B.rerr bRerr rfl) pa_nil))) (pe_one (pe_not (pe_callB isi (by rfl) B.isi bIsi (pa_cons (pv 0) (pa_cons (pe_tup (pa_cons (pe_glob (v := .ref CL) (by rfl) T.gL rfl) (pa_cons (pe_glob (v := .ref CS) (by rfl) T.gS rfl) pa_nil))) pa_nil)))))) pa_nil)))))) pss_nil)
    (pss_cons (ps_if (pt_val (pe_callB isi (by rfl) B.isi bIsi (pa_cons (pv 0) (pa_cons (pe_glob (v := .ref CP) (by rfl) T.gP rfl) pa_nil)))) (pss_one (ps_ret (pe_lst (pa_cons pe_str (pa_cons (pe_xp T.xP T.pP hp hz hf (pv 0))
      (pa_cons (pe_and (pe_callB isi (by rfl) B.isi bIsi (pa_cons (pv 0) (pa_cons (pe_glob (v := .ref CL) (by rfl) T.gL rfl) pa_nil))) (pe_one (pe_not (pe_callB isi (by rfl) B.isi bIsi (pa_cons (pv 0) (pa_cons (pe_tup (pa_cons (pe_glob (v := .ref CN) (by rfl) T.gN rfl) (pa_cons (pe_glob (v := .ref CT) (by rfl) T.gT rfl) pa_nil))) pa_nil)))))) pa_nil)))))) pss_nil)
    (pss_one (ps_ret (pe_lst (pa_cons pe_str
      (pa_cons (pe_and (pe_callB isi (by rfl) B.isi bIsi (pa_cons (pv 0) (pa_cons (pe_glob (v := .ref CL) (by rfl) T.gL rfl) pa_nil))) (pe_one (pe_not (pe_callB isi (by rfl) B.isi bIsi (pa_cons (pv 0) (pa_cons (pe_tup (pa_cons (pe_glob (v := .ref CT) (by rfl) T.gT rfl) (pa_cons (pe_glob (v := .ref CD) (by rfl) T.gD rfl) pa_nil))) pa_nil)))))) pa_nil)))))), ?_⟩
  have isOne : ∀ {H3 : Hp} {c : V} {u : Value} {b : Bool}, Ex H H3 → ClsV c u → PySem.W.kitOne K (.ref D) u = some b → Ev (tCB (rIsP K D a d) (tCons (tVar 0) (tCons (tC c) tNil))) (L2.start ["_law_e"] [.ref a]) H3 (.bl b) := fun e3 kc kb H4 e4 Q' q' =>
    ⟨.ref a, rfl, _, _, rfl, fun dd hd => let ⟨fs, h⟩ := hdd dd hd; ⟨fs, e4 _ _ (e3 _ _ h)⟩, .inl ⟨_, kc, kb⟩, q' _ (Ex.refl _)⟩
  have isTwo : ∀ {H3 : Hp} {C1 C2 : Addr}, Ex H H3 → PySem.W.kitOne K (.ref D) (.ref C1) = some false → PySem.W.kitOne K (.ref D) (.ref C2) = some false → Ev (tCB (rIsP K D a d) (tCons (tVar 0) (tCons (tTup (tCons (tC (.ref C1)) (tCons (tC (.ref C2)) tNil))) tNil))) (L2.start ["_law_e"] [.ref a]) H3 (.bl false) := fun {H3 C1 C2} e3 k1 k2 H4 e4 Q' q' =>
    ⟨.ref a, rfl, by show 2 ≤ sizeLine; decide, fun tp ztp => ⟨.ref tp, false, rfl, fun dd hd => let ⟨fs, h⟩ := hdd dd hd; ⟨fs, Ex.new ztp _ _ (e4 _ _ (e3 _ _ h))⟩, .inr ⟨tp, _, [.ref C1, .ref C2], rfl, upd_same, .cons (.own C1) (.cons (.own C2) .nil),
      kitAny_cons k1 (fun _ => kitAny_cons k2 (fun _ => kitAny_nil) (fun z => nomatch z)) (fun z => nomatch z)⟩, q' _ (Ex.new ztp)⟩⟩
  rcases h with ⟨e, dd, i, rfl, hd, q⟩ | ⟨e, dd, i, rfl, hd, q⟩ | ⟨e, rfl, q⟩
  · cases e
    refine q_when (b := true) (et_B (isOne (Ex.refl H) (.own CW) T.ww)) (fun _ H1 e1 => ?_) (fun z => nomatch z)
    exact el_lst (ea_cons ev_c (ea_cons (fun H4 e4 Q' q' => ⟨.ref a, rfl, rfl, rfl, dd, _, .int i, rfl, e4 _ _ (e1 _ _ hd), by simp [List.lookup], q' _ (Ex.refl _)⟩) (ea_cons (ev_andV (b := true) (isOne e1 (.ty "RuntimeError") T.wr) fun _ => ev_notV (isTwo e1 T.wl T.ws)) ea_nil))) (by show 3 ≤ 100000; decide) H1 (Ex.refl _) _ fun L H2 z e2 h2 => q L H2 (fresh_back e1 z) (e1.trans e2) h2
  · cases e
    refine q_when (b := false) (et_B (isOne (Ex.refl H) (.own CW) T.pw)) (fun z => nomatch z) (fun _ H1 e1 => ?_)
    refine q_when (b := true) (et_B (isOne e1 (.own CP) T.pp)) (fun _ H2 e2 => ?_) (fun z => nomatch z)
    have e12 := e1.trans e2
    exact el_lst (ea_cons ev_c (ea_cons (fun H4 e4 Q' q' => ⟨.ref a, rfl, rfl, rfl, dd, _, .int i, rfl, e4 _ _ (e12 _ _ hd), by simp [List.lookup], q' _ (Ex.refl _)⟩) (ea_cons (ev_andV (b := true) (isOne e12 (.own CL) T.pl) fun _ => ev_notV (isTwo e12 T.pn T.pt)) ea_nil))) (by show 3 ≤ 100000; decide) H2 (Ex.refl _) _ fun L H3 z e3 h3 => q L H3 (fresh_back e12 z) (e12.trans e3) h3
  · cases e
    refine q_when (b := false) (et_B (isOne (Ex.refl H) (.own CW) T.nw)) (fun z => nomatch z) (fun _ H1 e1 => ?_)
    refine q_when (b := false) (et_B (isOne e1 (.own CP) T.np)) (fun z => nomatch z) (fun _ H2 e2 => ?_)
    have e12 := e1.trans e2
    exact el_lst (ea_cons ev_c (ea_cons (ev_andV (b := true) (isOne e12 (.own CL) T.nl) fun _ => ev_notV (isTwo e12 T.nt T.nd)) ea_nil)) (by show 2 ≤ 100000; decide) H2 (Ex.refl _) _ fun L H3 z e3 h3 => q L H3 (fresh_back e12 z) (e12.trans e3) h3
end
end Cr
namespace Cr
open PySem PySem.Spec PyProof.Rows L2 Evl
/-- a program is drawn: all of it steps, in their room -/
structure Made (p : Addr) (H H' : Hp) (D : Addr) (sz i : Nat) (ys : List V) (vss : List (List V)) : Prop where
  dr : Drew p H H'
  hD : H' D = some (.lst ys)
  st : Steps H' ys vss
  len : vss.length = i
  ok : ∀ us ∈ vss, StepV us ∧ intsIn us
  bf : ∀ (j : Nat) us, vss[j]? = some us → isBefore (.tuple (us.map flD)) ((sz : Int) - j - 1) = true
def spProgF : Sp := fun vs H Q _ => ∃ (p tg : Addr) (ts : List Str) (sz : Nat) (top : Bool), vs = [.ref p, .ref tg, .int (sz : Int), .bl top] ∧ Pot H p ∧ tg ≠ p ∧ H tg = some (.lst (ts.map V.str)) ∧ 1 ≤ ts.length ∧ ts.length ≤ 100 ∧ (∀ x ∈ ts, isNameS x = true) ∧ sz ≤ 100 ∧
  ∀ D ys vss H', H D = none → Made p H H' D sz sz ys vss → Q (.ref D) H'
/-- the memory behind a step, i the value that is given -/
def memoA (us : List V) (i : Int) (m : M4) : M4 := if isPlain (.tuple (us.map flD)) = true then memo us m else memoO us i m
theorem plain_isPlain {us : List V} (h : PlainV us) : isPlain (.tuple (us.map flD)) = true := by
  unfold isPlain
  rw [(plain_stepV h).step, Bool.true_and]
  cases h with
  | set => show (plain3.any fun y => y == "set") = true; decide +kernel
  | add => show (plain3.any fun y => y == "add") = true; decide +kernel
  | skip => show (plain3.any fun y => y == "skip") = true; decide +kernel
theorem other_notPlain {us : List V} (h : OtherV us) : isPlain (.tuple (us.map flD)) = false := by
  have no : ∀ {z : Str} {ds : List PyData}, (plain3.any fun y => y == z) = false → isPlain (.tuple (.str z :: ds)) = false := fun {z ds} h => by
    show (isStep (.tuple (.str z :: ds)) && (plain3.any fun y => y == z)) = false
    rw [h, Bool.and_false]
  cases h <;> exact no (by decide +kernel)
theorem memoA_plain {us : List V} {i : Int} {m : M4} (h : PlainV us) : memoA us i m = memo us m := if_pos (plain_isPlain h)
theorem memoA_other {us : List V} {i : Int} {m : M4} (h : OtherV us) : memoA us i m = memoO us i m := if_neg (by rw [other_notPlain h]; decide)
theorem goes_other {us : List V} {m : M4} (h : OtherV us) : goes us m = 1 := by cases h <;> rfl
theorem plain_or {us : List V} (h : StepV us) : PlainV us ∨ OtherV us := by
  cases e : isPlain (.tuple (us.map flD)) with
  | true => exact .inl (plain_of h e)
  | false => exact .inr (other_of h e)
section
variable {P : Program} {w : World} {K : PySem.W.Frag} {mg : Str → Option Value} {base : Heap}
theorem ok_prog {f : Addr} {fd : FuncData} {k : Nat} (F : Fun K "_law_program" "_law_program" sProg f fd) (B : Blt mg) (S : Has P w K mg base k "_law_step" ["_law_pot_here", "_law_targets", "_law_after", "_law_is_top"] spStepF) :
    FnG P w K mg base CX0 (k + 1) f fd ["_law_pot_here", "_law_targets", "_law_size", "_law_is_top"] spProgF := by
  obtain ⟨fS, fdS, GS, bS, kS, gS⟩ := S.ex
  refine okG F scProg (fun vs H Q E h => by obtain ⟨_, _, _, _, _, rfl, _⟩ := h; rfl) (fun cdv A outer s H vs Q E hq hr h => ?_)
  obtain ⟨p, tg, ts, sz, top, rfl, pot, tn, htg, t1, t100, hts, s100, q⟩ := h
  refine ⟨_, pss_one (ps_ret (pe_lc (own := [("_law_k", 4)]) (g := gName 4) (tt := tYes) rfl scProg.nd (pi_range1 (by rfl) B.range (pa_cons (pv 2) pa_nil)) (blkOk_by (own := [("_law_k", 4)]) (N := nProg) (sc := defScope sProg) (by decide +kernel))
    (fun _ _ _ _ _ => pg_name (i := 4) scProg.nd rfl (Or.inl rfl)) (fun _ _ _ _ _ => pts_nil) (fun _ _ _ _ _ => callG GS hq hr (by rfl) gS kS bS .nil pass0 (pa_cons (pv 0) (pa_cons (pv 1) (pa_cons (pe_op op_sub (pe_op op_sub (pv 2) (pv 4)) pe_int) (pa_cons (pv 3) pa_nil))))))), ?_⟩
  refine ⟨.int sz, rfl, sz, rfl, by omega, by omega, fun D hD => ?_⟩
  have Dn : D ≠ p := (Drew.refl pot).neq hD
  have Dt' : D ≠ tg := fun e => by rw [e, htg] at hD; cases hD
  refine lc_range (lo := 0) (n := (sz : Int).toNat) (fun j H' => ∃ ys vss, Made p H H' D sz j ys vss) ⟨[], [], (Drew.refl pot).new hD, upd_same, trivial, rfl, (fun _ h => nomatch h), fun j us h => by simp at h⟩ (fun j H' hj hP => ?_) (fun H' hP => ?_)
  · obtain ⟨ys, vss, md⟩ := hP
    have e0 : ((0 : Int) + (j : Int)) = (j : Int) := Int.zero_add _
    have hj' : j < sz := by omega
    rw [e0]
    have ea : ((sz : Int) - (j : Int) - 1) = ((sz - j - 1 : Nat) : Int) := by omega
    refine ⟨rfl, .ref p, rfl, .ref tg, rfl, .int (sz : Int), rfl, .int (j : Int), rfl, (sz : Int), (j : Int), rfl, rfl, (sz : Int) - (j : Int), 1, rfl, rfl, .bl top, rfl, p, tg, ts, sz - j - 1, top, by rw [← ea]; rfl, md.dr.pot, tn, md.dr.at tn htg, t1, t100, hts, by omega, fun t us H5 zt hT sv hi bf r5 => ?_⟩
    have hD5 := r5.at Dn md.hD
    have lt : D ≠ t := fun e => by rw [← e, md.hD] at zt; cases zt
    have tp : Tps H' (upd H5 D (.lst (ys ++ [.ref t]))) := (r5.tps md.dr.pot).upd fun zs z => by rw [hD5] at z; cases z
    have lv := md.len
    refine ⟨ys, hD5, sz_lt (by rw [md.st.length]; omega), ys ++ [.ref t], vss ++ [us], (md.dr.trans r5).mut hD Dn, upd_same, (md.st.tps tp).snoc (by rw [upd_ne lt.symm]; exact hT), by rw [List.length_append, lv]; rfl, fun u hu => ?_, fun j' u hu => ?_⟩
    · rcases List.mem_append.mp hu with z | z
      · exact md.ok u z
      · rw [List.mem_singleton.mp z]; exact ⟨sv, hi⟩
    · by_cases hlt : j' < vss.length
      · rw [List.getElem?_append_left hlt] at hu
        exact md.bf j' u hu
      · have hl : j' < (vss ++ [us]).length := (List.getElem?_eq_some_iff.mp hu).1
        rw [List.length_append, List.length_singleton] at hl
        have ej : j' = vss.length := by omega
        subst ej
        rw [List.getElem?_append_right (Nat.le_refl _), Nat.sub_self] at hu
        cases hu
        rw [lv, ea]
        exact bf
  · obtain ⟨ys, vss, md⟩ := hP
    have es : (sz : Int).toNat = sz := by omega
    rw [es] at md
    exact q D ys vss H' hD md
end
end Cr
namespace Cr
open PySem PySem.Spec PyProof.Rows L2 Evl
/-- len of a frame -/
structure HasLen (P : Program) (w : World) (K : PySem.W.Frag) (mg : Str → Option Value) (base : Heap) (k : Nat) (C : Addr) (sp : Sp) : Prop where
  ex : ∃ f fd, FnOk P w K mg base CX0 k f fd ["self"] sp ∧ Binds K fd ["self"] [] ∧ PySem.W.findIn K (.ref C) "__len__" = some (some (.ref f)) ∧ PySem.W.typeIn K (.ref f) = some (.type "function")
theorem step_sz {us : List V} (h : StepV us) (hi : intsIn us) : Sz 36 1 (.tuple (us.map flD)) := by
  have each : ∀ d ∈ us.map flD, Sz 8 0 d := fun d hd => by
    obtain ⟨v, hv, rfl⟩ := List.mem_map.mp hd
    have b := List.all_eq_true.mp h.bare v hv
    cases v with
    | int i => exact sz_int (Nat.le_trans (hi i hv) (by decide))
    | str x =>
      obtain ⟨b1, b2⟩ := bare8_str b
      exact sz_str b1 fun c hc => Nat.lt_trans (b2 c hc) (by decide)
    | _ => exact nomatch b
  have z := sz_tuple (sza_all each)
  refine z.mono ?_ (Nat.le_refl _)
  rw [List.length_map]
  have := h.len4
  omega
/-- what a frame shows, as data -/
def shownF (vss : List (List V)) (pos : Nat) (m : M4) (n : Nat) : List PyData := [nextD vss pos, .int (pos : Int), .dict m.dat, .bool (decide (pos = vss.length)), .int (n : Int)]
def smallM (m : M4) : Prop := m.all fun i => i.natAbs ≤ 10 ^ 70
theorem small_nat {n : Nat} (h : n ≤ 900) : ((n : Nat) : Int).natAbs ≤ 10 ^ 70 := by
  rw [Int.natAbs_natCast]
  exact Nat.le_trans h (by decide)
theorem mem_sz {m : M4} (h : smallM m) : Sz 20 1 (.dict m.dat) := by
  have ks : ∀ {x : Str}, isVar (.str x) = true → Sz 1 0 (.str x) := fun h => by
    rcases var_cases h with rfl | rfl | rfl | rfl <;> exact sz_str (by decide +kernel) (by decide +kernel)
  exact (sz_dict (szk_cons (ks (by decide +kernel)) (sz_int (b := 0) h.1) (szk_cons (ks (by decide +kernel)) (sz_int (b := 0) h.2.1) (szk_cons (ks (by decide +kernel)) (sz_int (b := 0) h.2.2.1) (szk_cons (ks (by decide +kernel)) (sz_int (b := 0) h.2.2.2) (szk_nil (b := 0))))))).mono (by decide) (by decide)
theorem next_sz {vss : List (List V)} {pos : Nat} (h : ∀ us ∈ vss, StepV us ∧ intsIn us) : Sz 36 1 (nextD vss pos) := by
  unfold nextD
  cases e : vss[pos]? with
  | none => exact sz_none
  | some us =>
    obtain ⟨h1, h2⟩ := h us (List.mem_of_getElem? e)
    exact step_sz h1 h2
theorem shown_fits {vss : List (List V)} {pos n : Nat} {m : M4} (h : ∀ us ∈ vss, StepV us ∧ intsIn us) (hm : smallM m) (hp : pos ≤ 900) (hn : n ≤ 900) : Fits (.list (shownF vss pos m n)) :=
  (sz_list (sza_cons ((next_sz h)) (sza_cons (sz_int (b := 0) (small_nat hp)) (sza_cons (mem_sz hm) (sza_cons (sz_bool (b := 0)) (sza_cons (sz_int (b := 0) (small_nat hn)) (sza_nil (b := 0)))))))).fits (by decide) (by decide)
theorem ev_reprD {te : TE} {σ : L2.St} {H : Hp} {v : V} {d : PyData} (h : Ev te σ H v) (hd : Dt H v d) (f : Fits d) : Ev (tCB rRepr (tCons te tNil)) σ H (.str d.shown) := fun H1 e Q q =>
  h H1 e _ fun H2 e2 => ⟨v, d, rfl, Dt.ex (e.trans e2) hd, f, q H2 e2⟩
theorem ev_reprL {te : TE} {σ : L2.St} {H : Hp} {xs : List V} {ds : List PyData} (h : EvL te σ H xs) (hd : DtAll H xs ds) (f : Fits (.list ds)) : Ev (tCB rRepr (tCons te tNil)) σ H (.str (PyData.list ds).shown) := fun H1 e Q q =>
  h H1 e _ fun p H2 hp e2 hx => ⟨.ref p, .list ds, rfl, .lst hx (DtAll.ex (e.trans e2) hd), f, q H2 e2⟩
/-- pass_step, with and without its keyword -/
structure HasPass (P : Program) (w : World) (K : PySem.W.Frag) (mg : Str → Option Value) (base : Heap) (k : Nat) (C CW CN : Addr) : Prop where
  ex : ∃ f fd, FnOk P w K mg base (L2.CX P w) k f fd ["self", "value"] (spPass C CW CN) ∧ (∃ ds, Vals [.non] ds ∧ Binds K fd ["self", "value"] ds) ∧ (∃ g, KBn K fd ["self", "value"] 1 ["value"] g (fun vs zs => vs ++ zs)) ∧ Meth K C "pass_step" f
theorem Pot.but {l : List Addr} {p : Addr} {H H' : Hp} (h : Pot H p) (b : But l H H') (n : p ∉ l) : Pot H' p := by
  obtain ⟨x, y, z, r⟩ := h
  exact ⟨x, y, b _ _ n z, r⟩
theorem Drew.but {p : Addr} {l : List Addr} {H H' : Hp} (d : Drew p H H') : But (p :: l) H H' := fun a o n h => d.at (fun e => n (by rw [e]; exact List.mem_cons_self)) h
theorem memoO_none {us : List V} {i j : Int} {m : M4} (h : givenX us = none) : memoO us i m = memoO us j m := by
  unfold memoO
  rw [h]

abbrev sDue : Stmt := topS 43
abbrev nDue : List Str := ["_law_step_here", "_law_at", "_law_is_plain_call", "_law_given", "_law_is_basic", "_law_is_number"]
theorem scDue : FnScope nDue ["_law_step_here", "_law_at", "_law_is_plain_call", "_law_given"] (defScope sDue) := ⟨rfl, rfl, rfl, by decide +kernel, rfl, by decide +kernel, by decide +kernel⟩
/-- the step at a place, or none -/
def NxV (H : Hp) (sv : V) (nx : Option (List V)) : Prop := (sv = .non ∧ nx = none) ∨ ∃ t us, sv = .ref t ∧ H t = some (.tup us) ∧ StepV us ∧ nx = some us
theorem NxV.ex {H H' : Hp} {sv : V} {nx : Option (List V)} (h : NxV H sv nx) (e : Ex H H') : NxV H' sv nx := by
  rcases h with h | ⟨t, us, h1, h2, h3, h4⟩
  · exact .inl h
  · exact .inr ⟨t, us, h1, e _ _ h2, h3, h4⟩
/-- data that can be compared -/
def Shp (d : PyData) : Prop := SeqAt.shaped d = true ∨ ∃ es, d = .dict es
/-- given where no value is wanted -/
def okN (d : PyData) : Bool := ([.str "nothing", .none] : List PyData).any fun z => PyData.eqv z d
def rightG (us : List V) (d : PyData) : Bool :=
  match givenX us with
  | some _ => isInteger d
  | none => okN d
/-- how a call ends: 0 WrongStep, 1 InvalidNumber, 2 it passes -/
def outc (nx : Option (List V)) (c : Bool) (d : PyData) : Nat :=
  match nx with
  | none => 0
  | some us => if isPlain (.tuple (us.map flD)) = c then (if c = true then 2 else if rightG us d = true then 2 else 1) else 0
def outD (o : Nat) (at_ : Nat) : PyData :=
  match o with
  | 0 => .list [.str "step", .int (at_ : Int), .bool true]
  | 1 => .list [.str "number", .bool true]
  | _ => .list [.str "passed"]
theorem out0_fits {n : Nat} (h : n ≤ 900) : Fits (.list [.str "step", .int (n : Int), .bool true]) :=
  (sz_list (sza_cons (sz_str (b := 8) (m := 0) (by decide +kernel) (by decide +kernel)) (sza_cons (sz_int (b := 0) (small_nat h)) (sza_cons (sz_bool (b := 0)) (sza_nil (b := 0) (m := 0)))))).fits (by decide) (by decide)
theorem out1_fits : Fits (.list [.str "number", .bool true]) := (sz_list (sza_cons (sz_str (b := 8) (m := 0) (by decide +kernel) (by decide +kernel)) (sza_cons (sz_bool (b := 0)) (sza_nil (b := 0) (m := 0))))).fits (by decide) (by decide)
theorem out2_fits : Fits (.list [.str "passed"]) := (sz_list (sza_cons (sz_str (b := 8) (m := 0) (by decide +kernel) (by decide +kernel)) (sza_nil (b := 0) (m := 0)))).fits (by decide) (by decide)
theorem nm_plain {us : List V} (h : PlainV us) : ∃ z, us[0]? = some (.str z) ∧ inV (.str z) [.str "set", .str "add", .str "skip"] = true := by
  cases h with
  | set => exact ⟨_, rfl, by decide +kernel⟩
  | add => exact ⟨_, rfl, by decide +kernel⟩
  | skip => exact ⟨_, rfl, by decide +kernel⟩
theorem nm_other {us : List V} (h : OtherV us) : ∃ z, us[0]? = some (.str z) ∧ inV (.str z) [.str "set", .str "add", .str "skip"] = false ∧ inV (.str z) [.str "read", .str "try"] = (givenX us).isSome := by
  cases h with
  | exp => exact ⟨_, rfl, by decide +kernel, by rw [given_exp]; decide +kernel⟩
  | read => exact ⟨_, rfl, by decide +kernel, by show _ = true; decide +kernel⟩
  | need => exact ⟨_, rfl, by decide +kernel, by show _ = false; decide +kernel⟩
  | try_ => exact ⟨_, rfl, by decide +kernel, by rw [given_try]; show _ = true; decide +kernel⟩
  | fail => exact ⟨_, rfl, by decide +kernel, by show _ = false; decide +kernel⟩
def spDue : Sp := fun vs H Q _ => ∃ (sv : V) (nx : Option (List V)) (at_ : Nat) (c : Bool) (gv : V) (d : PyData), vs = [sv, .int (at_ : Int), .bl c, gv] ∧ at_ ≤ 900 ∧ NxV H sv nx ∧ Dt H gv d ∧ Shp d ∧
  ∀ H', Ex H H' → Q (.str (outD (outc nx c d) at_).shown) H'
section
variable {P : Program} {w : World} {K : PySem.W.Frag} {mg : Str → Option Value} {base : Heap}
theorem ok_due {f : Addr} {fd : FuncData} {k : Nat} (F : Fun K "_law_due" "_law_due" sDue f fd) (B : Blt mg) : FnG P w K mg base CX0 (k + 1) f fd ["_law_step_here", "_law_at", "_law_is_plain_call", "_law_given"] spDue := by
  refine okG F scDue (fun vs H Q E h => by obtain ⟨_, _, _, _, _, _, rfl, _⟩ := h; rfl) (fun cdv A outer s H vs Q E hq hr h => ?_)
  obtain ⟨sv, nx, at_, c, gv, d, rfl, hat, hnx, hd, hsh, q⟩ := h
  refine ⟨_, pss_cons (ps_set (i := 4) scDue.nd rfl (.inl rfl) (pe_and (pe_cmpR op_notN (pv 0) pe_non (nomark _)) (pe_one (pe_cmpR op_in_seq (pe_ix ix_tup (pv 0) pe_int (fun _ _ => rfl)) (pe_tup (pa_cons pe_str (pa_cons pe_str (pa_cons pe_str pa_nil)))) (by rfl)))))
    (pss_cons (ps_if (PW.pt (pw_or (pt_cmpR op_isN (pv 0) pe_non (nomark _)) (pw_or1 (pt_cmpR op_ne (pv 4) (pv 2) (nomark _))))) (pss_one (ps_ret (pe_callB (call_reprG hq hr.units) (by rfl) B.repr bRepr (pa_cons (pe_lst (pa_cons pe_str (pa_cons (pv 1) (pa_cons pe_bl pa_nil)))) pa_nil)))) pss_nil)
    (pss_cons (ps_set (i := 5) scDue.nd rfl (.inl rfl) (pe_and (pe_callB call_isi (by rfl) B.isi bIsi (pa_cons (pv 3) (pa_cons (pe_bltn (v := .ty "int") (by rfl) B.int bInt rfl) pa_nil))) (pe_one (pe_not (pe_callB call_isi (by rfl) B.isi bIsi (pa_cons (pv 3) (pa_cons (pe_bltn (v := .ty "bool") (by rfl) B.bool bBool rfl) pa_nil)))))))
    (pss_cons (ps_if (PW.pt (pw_and (pt_not (pt_val (pv 4))) (pw_and1 (PW.pt (pw_and (pt_cmpR op_in_seq (pe_ix ix_tup (pv 0) pe_int (fun _ _ => rfl)) (pe_tup (pa_cons pe_str (pa_cons pe_str pa_nil))) (by rfl)) (pw_and1 (pt_not (pt_val (pv 5))))))))) (pss_one (ps_ret (pe_callB (call_reprG hq hr.units) (by rfl) B.repr bRepr (pa_cons (pe_lst (pa_cons pe_str (pa_cons pe_bl pa_nil))) pa_nil)))) pss_nil)
    (pss_cons (ps_if (PW.pt (pw_and (pt_not (pt_val (pv 4))) (pw_and (pt_cmpR op_notIn_seq (pe_ix ix_tup (pv 0) pe_int (fun _ _ => rfl)) (pe_tup (pa_cons pe_str (pa_cons pe_str pa_nil))) (by rfl)) (pw_and1 (pt_cmpR (op_notInDs (units65 hr)) (pv 3) (pe_tup (pa_cons pe_str (pa_cons pe_non pa_nil))) (by rfl)))))) (pss_one (ps_ret (pe_callB (call_reprG hq hr.units) (by rfl) B.repr bRepr (pa_cons (pe_lst (pa_cons pe_str (pa_cons pe_bl pa_nil))) pa_nil)))) pss_nil)
    (pss_one (ps_ret (pe_callB (call_reprG hq hr.units) (by rfl) B.repr bRepr (pa_cons (pe_lst (pa_cons pe_str pa_nil)) pa_nil)))))))), ?_⟩
  -- the ends
  have end0 : ∀ {σ : L2.St} {H1 : Hp}, σ[1]? = some (some (.int (at_ : Int))) → Ex H H1 → outc nx c d = 0 → tRet (tCB rRepr (tCons (tLst (tCons (tC (.str "step")) (tCons (tVar 1) (tCons (tC (.bl true)) tNil)))) tNil)) { nx := fun _ H' => Q .non H', rt := Q } σ H1 := fun {σ H1} h1 e1 h0 =>
    s_ret (ev_reprL (el_lst (ea_cons ev_c (ea_cons (ev_var h1) (ea_cons ev_c ea_nil))) (by show 3 ≤ 100000; decide)) (ds := [.str "step", .int (at_ : Int), .bool true]) (.cons (.str _) (.cons (.int _) (.cons (.bl _) .nil))) (out0_fits hat)) fun H2 e2 => by
      have g := q H2 (e1.trans e2)
      rw [h0] at g
      exact g
  have end1 : ∀ {σ : L2.St} {H1 : Hp}, Ex H H1 → outc nx c d = 1 → tRet (tCB rRepr (tCons (tLst (tCons (tC (.str "number")) (tCons (tC (.bl true)) tNil))) tNil)) { nx := fun _ H' => Q .non H', rt := Q } σ H1 := fun {σ H1} e1 h0 =>
    s_ret (ev_reprL (el_lst (ea_cons ev_c (ea_cons ev_c ea_nil)) (by show 2 ≤ 100000; decide)) (ds := [.str "number", .bool true]) (.cons (.str _) (.cons (.bl _) .nil)) out1_fits) fun H2 e2 => by
      have g := q H2 (e1.trans e2)
      rw [h0] at g
      exact g
  have end2 : ∀ {σ : L2.St} {H1 : Hp}, Ex H H1 → outc nx c d = 2 → tRet (tCB rRepr (tCons (tLst (tCons (tC (.str "passed")) tNil)) tNil)) { nx := fun _ H' => Q .non H', rt := Q } σ H1 := fun {σ H1} e1 h0 =>
    s_ret (ev_reprL (el_lst (ea_cons ev_c ea_nil) (by show 1 ≤ 100000; decide)) (ds := [.str "passed"]) (.cons (.str _) .nil) out2_fits) fun H2 e2 => by
      have g := q H2 (e1.trans e2)
      rw [h0] at g
      exact g
  rcases hnx with ⟨rfl, rfl⟩ | ⟨t, us, rfl, hT, sv, rfl⟩
  · refine q_asg (v := .bl false) (ev_is (ev_andV (a := false) (b := true) (ev_op (ev_var rfl) ev_c (rv_val fun H2 _ Q q => ⟨rfl, q⟩)) fun z => nomatch z) rfl) fun H1 e1 => ?_
    exact q_when (b := true) (et_is (et_or (a := true) (b := true) (et_test (ev_op (ev_var rfl) ev_c (rv_val fun H2 _ Q q => ⟨rfl, q⟩))) fun z => nomatch z) rfl) (fun _ H2 e2 => end0 rfl (e1.trans e2) rfl) (fun z => nomatch z)
  · have ix : ∀ {H' : Hp} {σ : L2.St} {v : V}, Ex H H' → σ[0]? = some (some (.ref t)) → us[0]? = some v → Ev (tOp (rIxT K) (tVar 0) (tC (.int 0))) σ H' v := fun e hσ h => ev_op (ev_var hσ) ev_c (rv_ixT (st_of (e _ _ hT)) (atI_nat (j := 0) h))
    have t1 : ∀ {H' : Hp} {σ : L2.St} {z : Str}, Ex H H' → σ[0]? = some (some (.ref t)) → us[0]? = some (.str z) → Ev (tOp (rIn K false) (tOp (rIxT K) (tVar 0) (tC (.int 0))) (tTup (tCons (tC (.str "set")) (tCons (tC (.str "add")) (tCons (tC (.str "skip")) tNil))))) σ H' (.bl (inV (.str z) [.str "set", .str "add", .str "skip"])) :=
      fun e hσ h => ev_inU (ix e hσ h) (eu_tup (ea_cons ev_c (ea_cons ev_c (ea_cons ev_c ea_nil))) (by show 3 ≤ 100000; decide)) rfl rfl
    have basic : ∀ {z : Str} {b : Bool}, us[0]? = some (.str z) → inV (.str z) [.str "set", .str "add", .str "skip"] = b → Ev (tAndV (tOp (fun x y H Q => y = .non ∧ Q (.bl (!decide (x = .non))) H) (tVar 0) (tC .non)) (tOp (rIn K false) (tOp (rIxT K) (tVar 0) (tC (.int 0))) (tTup (tCons (tC (.str "set")) (tCons (tC (.str "add")) (tCons (tC (.str "skip")) tNil)))))) (L2.start nDue [.ref t, .int (at_ : Int), .bl c, gv]) H (.bl b) := fun {z b} hz hb =>
      ev_is (ev_andV (a := true) (b := b) (ev_is (ev_op (ev_var rfl) ev_c (rv_val fun H2 _ Q q => ⟨rfl, q⟩)) (by rw [decide_eq_false (fun z => nomatch z)]; rfl)) fun _ => ev_is (t1 (Ex.refl H) rfl hz) (by rw [hb])) (Bool.true_and b ▸ rfl)
    have test2 : ∀ {b : Bool} {H1 : Hp}, EvT (tOr (tTest (tOp (fun x y H Q => y = .non ∧ Q (.bl (decide (x = .non))) H) (tVar 0) (tC .non))) (tTest (tOp rNe (tVar 4) (tVar 2)))) [some (.ref t), some (.int (at_ : Int)), some (.bl c), some gv, some (.bl b), none] H1 (!decide (V.bl b = V.bl c)) := fun {b H1} =>
      et_is (et_or (a := false) (b := !decide (V.bl b = V.bl c)) (et_is (et_test (ev_op (ev_var rfl) ev_c (rv_val fun H2 _ Q q => ⟨rfl, q⟩))) (decide_eq_false (fun z => nomatch z))) fun _ => et_test (ev_op (ev_var rfl) (ev_var rfl) (rv_ne rfl))) (Bool.false_or _)
    have isnum : ∀ {σ : L2.St} {H1 : Hp}, σ[3]? = some (some gv) → Ex H H1 → Ev (tAndV (tCB (rIsi K) (tCons (tVar 3) (tCons (tC (.ty "int")) tNil))) (tNotV (tCB (rIsi K) (tCons (tVar 3) (tCons (tC (.ty "bool")) tNil))))) σ H1 (.bl (isInteger d)) := fun {σ H1} hσ e1 =>
      ev_andV (ev_cb (ea_cons (ev_var hσ) (ea_cons ev_c ea_nil)) (rc_isi (Dt.ex e1 hd) memI)) fun _ => ev_notV (ev_cb (ea_cons (ev_var hσ) (ea_cons ev_c ea_nil)) (rc_isi (Dt.ex e1 hd) memB))
    rcases plain_or sv with pl | ov
    · obtain ⟨z, hz, iz⟩ := nm_plain pl
      have ip := plain_isPlain pl
      refine q_asg (basic hz iz) fun H1 e1 => ?_
      refine q_when test2 (fun hb H2 e2 => end0 rfl (e1.trans e2) ?_) (fun hb H2 e2 => ?_)
      · have hc : c = false := by cases c with | false => rfl | true => exact absurd hb (by decide)
        show (if isPlain (.tuple (us.map flD)) = c then _ else 0) = 0
        rw [ip, hc, if_neg (by decide)]
      · have hc : c = true := by cases c with | true => rfl | false => exact absurd hb (by decide)
        have o2 : outc (some us) c d = 2 := by
          show (if isPlain (.tuple (us.map flD)) = c then (if c = true then 2 else _) else 0) = 2
          rw [ip, if_pos hc.symm, if_pos hc]
        refine q_asg (isnum rfl (e1.trans e2)) fun H3 e3 => ?_
        have e13 := (e1.trans e2).trans e3
        refine q_when (b := false) (et_is (et_and (a := false) (b := true) (et_is (et_not (et_B (ev_var rfl))) rfl) fun z => nomatch z) rfl) (fun z => nomatch z) (fun _ H4 e4 => ?_)
        refine q_when (b := false) (et_is (et_and (a := false) (b := true) (et_is (et_not (et_B (ev_var rfl))) rfl) fun z => nomatch z) rfl) (fun z => nomatch z) (fun _ H5 e5 => ?_)
        exact end2 ((e13.trans e4).trans e5) o2
    · obtain ⟨z, hz, iz, iz2⟩ := nm_other ov
      have ip := other_notPlain ov
      refine q_asg (basic hz iz) fun H1 e1 => ?_
      refine q_when test2 (fun hb H2 e2 => end0 rfl (e1.trans e2) ?_) (fun hb H2 e2 => ?_)
      · have hc : c = true := by cases c with | true => rfl | false => exact absurd hb (by decide)
        show (if isPlain (.tuple (us.map flD)) = c then _ else 0) = 0
        rw [ip, hc, if_neg (by decide)]
      · have hc : c = false := by cases c with | false => rfl | true => exact absurd hb (by decide)
        have o2 : outc (some us) c d = if rightG us d = true then 2 else 1 := by
          show (if isPlain (.tuple (us.map flD)) = c then (if c = true then 2 else if rightG us d = true then 2 else 1) else 0) = _
          rw [ip, if_pos hc.symm, if_neg (by rw [hc]; decide)]
        refine q_asg (isnum rfl (e1.trans e2)) fun H3 e3 => ?_
        have e13 := (e1.trans e2).trans e3
        have t2 : ∀ {H' : Hp} {σ : L2.St}, Ex H H' → σ[0]? = some (some (.ref t)) → Ev (tOp (rIn K false) (tOp (rIxT K) (tVar 0) (tC (.int 0))) (tTup (tCons (tC (.str "read")) (tCons (tC (.str "try")) tNil)))) σ H' (.bl (givenX us).isSome) := fun e hσ =>
          ev_is (ev_inU (ix e hσ hz) (eu_tup (ea_cons ev_c (ea_cons ev_c ea_nil)) (by show 2 ≤ 100000; decide)) rfl rfl) (by rw [iz2])
        have t2n : ∀ {H' : Hp} {σ : L2.St}, Ex H H' → σ[0]? = some (some (.ref t)) → Ev (tOp (rIn K true) (tOp (rIxT K) (tVar 0) (tC (.int 0))) (tTup (tCons (tC (.str "read")) (tCons (tC (.str "try")) tNil)))) σ H' (.bl (!(givenX us).isSome)) := fun e hσ =>
          ev_is (ev_opU (ix e hσ hz) (eu_tup (ea_cons ev_c (ea_cons ev_c ea_nil)) (by show 2 ≤ 100000; decide)) fun p H2 h _ => fun H3 e3 Q q => ⟨p, _, rfl, .inr (st_of (e3 _ _ h)), rfl, rfl, q H3 (Ex.refl H3)⟩) (by show V.bl (!inV _ _) = _; rw [iz2])
        refine q_when (b := (givenX us).isSome && !isInteger d) (et_is (et_and (a := true) (b := (givenX us).isSome && !isInteger d) (et_is (et_not (et_B (ev_var rfl))) rfl) fun _ => et_and (et_test (t2 e13 rfl)) fun _ => et_not (et_B (ev_var rfl))) (Bool.true_and _)) (fun hb4 H4 e4 => end1 (e13.trans e4) ?_) (fun hb4 H4 e4 => ?_)
        · obtain ⟨g1, g2⟩ := Bool.and_eq_true_iff.mp hb4
          obtain ⟨x, hx⟩ := Option.isSome_iff_exists.mp g1
          rw [o2]
          unfold rightG
          rw [hx]
          rw [Bool.not_eq_true'] at g2
          show (if isInteger d = true then 2 else 1) = 1
          rw [g2]
          rfl
        have e14 := e13.trans e4
        have notin : ∀ {σ : L2.St}, σ[3]? = some (some gv) → Ev (tOp rNotInDs (tVar 3) (tTup (tCons (tC (.str "nothing")) (tCons (tC .non) tNil)))) σ H4 (.bl (!okN d)) := fun {σ} hσ =>
          ev_opU (ev_var hσ) (eu_tup (ea_cons ev_c (ea_cons ev_c ea_nil)) (by show 2 ≤ 100000; decide)) fun p H2 h e2 => fun H3 e3 Q q => ⟨d, [.str "nothing", .none], Dt.ex ((e14.trans e2).trans e3) hd, by
            rcases hsh with hsh | ⟨es, rfl⟩
            · exact .inl ⟨.tup (e3 _ _ h) (.cons (.str _) (.cons .non .nil)), hsh, by decide +kernel, q H3 (Ex.refl H3)⟩
            · exact .inr ⟨es, p, _, rfl, rfl, e3 _ _ h, rfl, q H3 (Ex.refl H3)⟩⟩
        refine q_when (b := !(givenX us).isSome && !okN d) (et_is (et_and (a := true) (b := !(givenX us).isSome && !okN d) (et_is (et_not (et_B (ev_var rfl))) rfl) fun _ => et_and (et_test (t2n e14 rfl)) fun _ => et_test (notin rfl)) (Bool.true_and _)) (fun hb5 H5 e5 => end1 (e14.trans e5) ?_) (fun hb5 H5 e5 => end2 (e14.trans e5) ?_)
        · obtain ⟨g1, g2⟩ := Bool.and_eq_true_iff.mp hb5
          have gn : givenX us = none := by
            cases hg : givenX us with
            | none => rfl
            | some x => rw [hg] at g1; cases g1
          rw [o2]
          unfold rightG
          rw [gn]
          rw [Bool.not_eq_true'] at g2
          show (if okN d = true then 2 else 1) = 1
          rw [g2]
          rfl
        · rw [o2]
          unfold rightG
          cases hg : givenX us with
          | none =>
            rw [hg] at hb5
            have g2 : okN d = true := by cases ho : okN d with | true => rfl | false => rw [ho] at hb5; exact absurd hb5 (by decide)
            exact if_pos g2
          | some x =>
            rw [hg] at hb4
            have g2 : isInteger d = true := by cases ho : isInteger d with | true => rfl | false => rw [ho] at hb4; exact absurd (show true = false from hb4) (by decide)
            exact if_pos g2
end
end Cr
namespace Cr
open PySem PySem.Spec PyProof.Rows L2 Evl
abbrev sTold : Stmt := topS 42
abbrev nTold : List Str := ["_law_frame", "_law_is_plain_call", "_law_given", "_law_told_here", "_law_e"]
theorem scTold : FnScope nTold ["_law_frame", "_law_is_plain_call", "_law_given"] (defScope sTold) := ⟨rfl, rfl, rfl, by decide +kernel, rfl, by decide +kernel, by decide +kernel⟩
/-- the values that are given -/
def oddD : List PyData := [.str "nothing", .none, .bool true, .bool false, .str "1", .list [], .tuple [], .dict [], .list [.int 1], .str "", .int 3]
/-- what pass_step gets -/
def dvOf (d : PyData) : PyData := if PyData.eqv d (.str "nothing") = true then .none else d
theorem odd_ok {d : PyData} (h : d ∈ oddD) : Shp d ∧ sm d = true ∧ sm (dvOf d) = true ∧ okN d = isNoneD (dvOf d) ∧ isInteger d = isInteger (dvOf d) := by
  simp only [oddD, List.mem_cons, List.not_mem_nil, or_false] at h
  rcases h with rfl | rfl | rfl | rfl | rfl | rfl | rfl | rfl | rfl | rfl | rfl
  case inr.inr.inr.inr.inr.inr.inr.inl => exact ⟨.inr ⟨[], rfl⟩, by decide +kernel, by decide +kernel, by decide +kernel, by decide +kernel⟩
  all_goals exact ⟨.inl (by decide +kernel), by decide +kernel, by decide +kernel, by decide +kernel, by decide +kernel⟩
theorem odd_eq {d : PyData} {H : Hp} {v : V} {σ : L2.St} {i : Nat} (h : d ∈ oddD) (hd : Dt H v d) (hσ : σ[i]? = some (some v)) : EvT (tTest (tOp rEqDs (tVar i) (tC (.str "nothing")))) σ H (PyData.eqv d (.str "nothing")) :=
  et_test (ev_op (ev_var hσ) ev_c fun H2 e2 Q q => ⟨d, "nothing", Dt.ex e2 hd, rfl, by
    rcases (odd_ok h).1 with hs | ⟨es, rfl⟩
    · exact .inl ⟨hs, by decide +kernel, q H2 (Ex.refl H2)⟩
    · exact .inr ⟨es, rfl, q H2 (Ex.refl H2)⟩⟩)
theorem right_odd {us : List V} {d : PyData} (h : d ∈ oddD) : rightG us d = rightV us (dvOf d) := by
  obtain ⟨_, _, _, h1, h2⟩ := odd_ok h
  unfold rightG rightV
  cases givenX us with
  | none => exact h1
  | some x => exact h2
theorem isPlain_none : isPlain .none = false := by decide +kernel
/-- _law_kind, as it is called -/
structure HasK (P : Program) (w : World) (K : PySem.W.Frag) (mg : Str → Option Value) (base : Heap) (k : Nat) (CW CP CN : Addr) : Prop where
  ex : ∃ f fd, FnE P w K mg base k f fd ["_law_e"] (spKind CW CP CN) ∧ Binds K fd ["_law_e"] [] ∧ PySem.W.keepIn K (.ref f) = true ∧ mg "_law_kind" = some (.ref f)
/-- o.m() with defaults, in a try -/
def tMethSD (C : Addr) (m : Str) (sp : Sp) (dvs : List V) (E : L2.St → XK) (ta : TE) : TE := fun σ H Q => ta σ H fun x H1 => ∃ a dx fs, x = .ref a ∧ H1 a = some (.ins C dx fs) ∧ fs.lookup m = none ∧ sp (x :: dvs) H1 Q (E σ)
theorem methSD0 {X : Cx} {CX : CXT} {k : Nat} {f C : Addr} {fd : FuncData} {ps : List Str} {sp : Sp} {dvs : List V} {ds : List Value} {E : L2.St → XK} {m : Str} {pos apos : Pos} {o : Expr} {ta : TE} {pl : Sem Bool} (he : PE X o ta) (c : Cls X.K C) (hm : Meth X.K C m f) (F : FnOk X.prog X.w X.K X.mg X.base CX k f fd ps sp) (hr : Room k X.A) (hb : Binds X.K fd ps ds) (hd : Vals dvs ds) (hx : ∀ σ, PassesAt CX X σ (E σ))
    (ht : eval (.Call (.Attribute o m apos) [] [] pos) X.env = (do
      let ov ← eval o X.env
      standAt apos.atName
      let (f, first) ← holding [ov] (getMethod ov m pl)
      callWith pos f first (backTo pos (starEach [] X.env)) (backToKw pos (keywordEach [] X.env))) := by rfl) : PE X (.Call (.Attribute o m apos) [] [] pos) (tMethSD C m sp dvs E ta) := by
  constructor
  intro pins s σ H Q I h
  refine PySem.W.methodCall_KW (pl := pl) (thn (he.run pins s σ H _ I h) ?_) ht
  rintro u s1 ⟨x, H1, I1, rx, a, dx, fs, rfl, ea, l, q⟩
  obtain rfl : u = Value.ref a := rx
  refine getmeth_ok I1 ea c hm l ?_
  have r2 : Vals (V.ref a :: dvs) (Value.ref a :: ds) := .cons rfl hd
  have hl : ([Value.ref a] ++ ds).length = ps.length := r2.length.symm.trans (F.len _ _ _ _ q)
  exact PySem.W.callWith_K0 (first := [.ref a]) I1.kIn hm.kp (wpAny_call (codeAny_mono (F.run X.A X.stack s1 H1 ⟨[.ref a], []⟩ (.ref a :: ds) (.ref a :: dvs) Q (E σ) hr I1.env0 (hb s1 [.ref a] I1.kIn hl) r2 q) fun r s' hq' => endG (args := ⟨[], []⟩) (hx σ) I1 hq'))
def spTold (C : Addr) : Sp := fun vs H Q _ => ∃ (p : Addr) (c : Bool) (gv : V) (d : PyData) (A : FrA) (vss : List (List V)) (pos : Nat) (m : M4) (n : Nat), vs = [.ref p, .bl c, gv] ∧ FrameAt C H p A vss pos m n ∧ (vss.length ≤ 900 ∧ n ≤ 900) ∧ pos ≤ vss.length ∧ (∀ us ∈ vss, StepV us) ∧ Dt H gv d ∧ d ∈ oddD ∧ outc vss[pos]? c d ≠ 2 ∧
  ∀ H', Ex H H' → Q (.str (outD (outc vss[pos]? c d) pos).shown) H'
section
variable {P : Program} {w : World} {K : PySem.W.Frag} {mg : Str → Option Value} {base : Heap}
theorem ok_told {f C CW CP CN CL CT CS CD : Addr} {fd : FuncData} {k : Nat} (F : Fun K "_law_told" "_law_told" sTold f fd) (B : Blt mg) (T : FrC K mg C) (N : Kinds K mg CW CP CN CL CT CS CD) (hR : HasM P w K mg base (L2.CX P w) k C "run_plain" ["self"] (spRun C CW)) (hP : HasPass P w K mg base k C CW CN) (hK : HasK P w K mg base k CW CP CN) :
    FnG P w K mg base CX0 (k + 1) f fd ["_law_frame", "_law_is_plain_call", "_law_given"] (spTold C) := by
  obtain ⟨f1, d1, G1, b1, m1⟩ := hR.ex
  obtain ⟨f2, d2, G2, ⟨ds, vd, b2⟩, ⟨g2, kb⟩, m2⟩ := hP.ex
  obtain ⟨f3, d3, G3, b3, k3, g3⟩ := hK.ex
  refine okG F scTold (fun vs H Q E h => by obtain ⟨_, _, _, _, _, _, _, _, _, rfl, _⟩ := h; rfl) (fun cdv A outer s H vs Q E hq hr h => ?_)
  obtain ⟨p, c, gv, d, A', vss, pos, m, n, rfl, fr, few, hpos, hV, hd, hodd, hno, q⟩ := h
  obtain ⟨hsh, hsm, hsv, _, _⟩ := odd_ok hodd
  refine ⟨_, pss_cons (ps_set (i := 3) scTold.nd rfl (.inl rfl) (pe_lst (pa_cons pe_str pa_nil)))
    (pss_cons (ps_try_as2 (i := 4) (x1 := "InvalidNumber") (x2 := "WrongStep") (c1 := .ref CN) (c2 := .ref CW) (Wout := fun _ _ _ _ => False) rfl rfl scTold.nd rfl rfl ⟨by rfl, by decide, .inl N.gN⟩ ⟨by rfl, by decide, .inl N.gW⟩ takes0
        (fun Wx pn xe tk po => pss_one (ps_if (pt_val (pv 1)) (pss_one (ps_expr (methS0 (E := WE Wx) (pv 0) T.cl m1 G1 hr b1 (fun σ => passAt tk σ))))
          (pss_one (ps_if (pt_cmpR (op_eqDs hr.units) (pv 2) pe_str (nomark _)) (pss_one (ps_expr (methSD0 (E := WE Wx) (pv 0) T.cl m2 G2 hr b2 vd (fun σ => passAt tk σ))))
            (pss_one (ps_expr (methK0 (E := WE Wx) (pv 0) T.cl m2 G2 hr kb (fun σ => passAt tk σ) (pk_cons (pv 2) pk_nil))))))))
        (ts := fun a cls d => tAsg (tCallE (spKind CW CP CN) cls d a (tCons (tVar 4) tNil)) (gName 3))
        (fun a oe cls d pn hz hf => pss_one (ps_set (i := 3) scTold.nd rfl (.inl rfl) (pe_callE G3 ⟨hr.dp, hr.un⟩ rfl List.mem_cons_self hz hf (by rfl) g3 k3 b3 (pa_cons (pv 4) pa_nil)))))
    (pss_one (ps_ret (pe_callB (call_reprG hq hr.units) (by rfl) B.repr bRepr (pa_cons (pv 3) pa_nil))))), ?_⟩
  refine q_asgAny ?_
  refine el_lst (ea_cons ev_c ea_nil) (by show 1 ≤ 100000; decide) H (Ex.refl H) _ fun L0 H1 z0 e1 h1 => ?_
  have fr1 := fr.ex e1
  -- the clauses
  have c0 : ∀ {H2 : Hp} {dx : Addr}, Ex H H2 → outc vss[pos]? c d = 0 → H2 dx = some (.xd [("position", .int (pos : Int))]) →
      wAs2 K (.ref CN) (.ref CW) 4 (fun a cls d => tAsg (tCallE (spKind CW CP CN) cls d a (tCons (tVar 4) tNil)) (gName 3)) (fun _ _ _ _ => False) { ({ nx := fun _ H' => Q .non H', rt := Q } : Ends) with nx := tRet (tCB rRepr (tCons (tVar 3) tNil)) { nx := fun _ H' => Q .non H', rt := Q } } (.ref CW) (some dx)
        [some (.ref p), some (.bl c), some gv, some (.ref L0), none] H2 := fun {H2 dx} e2 h0 hx => by
    refine ⟨true, by simp [PySem.W.exmAny, N.mWN, N.mW], fun _ a ha => ⟨.ref a, rfl, rfl, .inl ⟨rfl, dx, (pos : Int), rfl, hx, fun L H3 zL e3 hL => ?_⟩⟩, fun z => nomatch z⟩
    refine s_ret (ev_reprD (ev_var rfl) (.lst hL (.cons (.str _) (.cons (.int _) (.cons (.bl _) .nil)))) (out0_fits (by omega))) fun H4 e4 => ?_
    have g := q H4 ((e2.trans e3).trans e4)
    rw [h0] at g
    exact g
  have c1 : ∀ {H2 : Hp}, Ex H H2 → outc vss[pos]? c d = 1 →
      wAs2 K (.ref CN) (.ref CW) 4 (fun a cls d => tAsg (tCallE (spKind CW CP CN) cls d a (tCons (tVar 4) tNil)) (gName 3)) (fun _ _ _ _ => False) { ({ nx := fun _ H' => Q .non H', rt := Q } : Ends) with nx := tRet (tCB rRepr (tCons (tVar 3) tNil)) { nx := fun _ H' => Q .non H', rt := Q } } (.ref CN) none
        [some (.ref p), some (.bl c), some gv, some (.ref L0), none] H2 := fun {H2} e2 h0 => by
    refine ⟨true, by simp [PySem.W.exmAny, N.mN, N.mNW], fun _ a ha => ⟨.ref a, rfl, rfl, .inr (.inr ⟨rfl, rfl, fun L H3 zL e3 hL => ?_⟩)⟩, fun z => nomatch z⟩
    refine s_ret (ev_reprD (ev_var rfl) (.lst hL (.cons (.str _) (.cons (.bl _) .nil))) out1_fits) fun H4 e4 => ?_
    have g := q H4 ((e2.trans e3).trans e4)
    rw [h0] at g
    exact g
  have nd0 : vss[pos]? = none ∨ isPlain (nextD vss pos) = !c → outc vss[pos]? c d = 0 := fun h => by
    unfold nextD at h
    cases hu : vss[pos]? with
    | none => rfl
    | some us =>
      rw [hu] at h
      rcases h with h | h
      · cases h
      · have h : isPlain (.tuple (us.map flD)) = !c := h
        show (if isPlain (.tuple (us.map flD)) = c then _ else 0) = 0
        rw [h]
        exact if_neg (by cases c <;> decide)
  -- the call that passes
  have pass : ∀ {v : V} {H2 : Hp} {D : Ends} {QN : V → Hp → Prop} {EX : XK}, c = false → Ex H H2 → Dt H2 v (dvOf d) → (∀ dx H3, Ex H H3 → outc vss[pos]? c d = 0 → H3 dx = some (.xd [("position", .int (pos : Int))]) → EX (.ref CW) (some dx) H3) → (∀ H3, Ex H H3 → outc vss[pos]? c d = 1 → EX (.ref CN) none H3) → spPass C CW CN [.ref p, v] H2 QN EX := fun {v H2 D QN EX} hc e2 hv k0 k1 => by
    refine ⟨p, v, dvOf d, A', vss, pos, m, n, rfl, hv, hsv, fr.ex e2, few, hpos, hV, fun us H' hus ov hr' _ _ => ?_, fun hw dx H' _ e' hx => k0 dx H' (e2.trans e') (nd0 ?_) hx, fun us H' hus ov hr' e' => k1 H' (e2.trans e') ?_⟩
    · refine absurd ?_ hno
      rw [hus]
      show (if isPlain (.tuple (us.map flD)) = c then (if c = true then 2 else if rightG us d = true then 2 else 1) else 0) = 2
      rw [other_notPlain ov, if_pos hc.symm, if_neg (by rw [hc]; decide), right_odd hodd, if_pos hr']
    · rw [hc]
      exact hw
    · rw [hus]
      show (if isPlain (.tuple (us.map flD)) = c then (if c = true then 2 else if rightG us d = true then 2 else 1) else 0) = 1
      rw [other_notPlain ov, if_pos hc.symm, if_neg (by rw [hc]; decide), right_odd hodd, hr']
      rfl
  refine s_if (b := c) (et_B (ev_var rfl)) (fun hc H2 e2 => ?_) (fun hc H2 e2 => ?_)
  · have fr2 := fr1.ex e2
    refine ⟨.ref p, rfl, p, A'.dx, _, rfl, fr2.ob, by rfl, p, A', vss, pos, m, n, rfl, fr2, few, hpos, hV, fun us H' hus pl _ _ => ?_, fun hb dx H' _ e' hx => c0 ((e1.trans e2).trans e') (nd0 (.inr (by rw [hb, hc]; rfl))) hx⟩
    refine absurd ?_ hno
    rw [hus]
    show (if isPlain (.tuple (us.map flD)) = c then (if c = true then 2 else _) else 0) = 2
    rw [plain_isPlain pl, if_pos hc.symm, if_pos hc]
  · have e12 := e1.trans e2
    refine s_if (b := PyData.eqv d (.str "nothing")) (odd_eq hodd (Dt.ex e12 hd) rfl) (fun hb H3 e3 => ?_) (fun hb H3 e3 => ?_)
    · have e13 := e12.trans e3
      have hdv : dvOf d = .none := if_pos hb
      exact ⟨.ref p, rfl, p, A'.dx, _, rfl, (fr.ex e13).ob, by rfl, pass (D := { nx := fun _ H' => Q .non H', rt := Q }) hc e13 (by rw [hdv]; exact .non) (fun dx H4 e4 h0 hx => c0 e4 h0 hx) (fun H4 e4 h0 => c1 e4 h0)⟩
    · have e13 := e12.trans e3
      have hdv : dvOf d = d := if_neg (by rw [hb]; decide)
      exact ⟨.ref p, rfl, p, A'.dx, _, rfl, (fr.ex e13).ob, by rfl, gv, rfl, rfl, pass (D := { nx := fun _ H' => Q .non H', rt := Q }) hc e13 (by rw [hdv]; exact Dt.ex e13 hd) (fun dx H4 e4 h0 hx => c0 e4 h0 hx) (fun H4 e4 h0 => c1 e4 h0)⟩
end
end Cr
namespace Cr
open PySem PySem.Spec PyProof.Rows L2 Evl
abbrev sShown : Stmt := topS 44
abbrev sTried : Stmt := topS 45
abbrev nTried : List Str := ["_law_pot_here", "_law_frame", "_law_step_here", "_law_odd", "_law_turn", "_law_is_plain_call", "_law_given", "_law_due_here", "_law_shown_here"]
theorem scShown : FnScope ["_law_frame"] ["_law_frame"] (defScope sShown) := ⟨rfl, rfl, rfl, by decide +kernel, rfl, by decide +kernel, by decide +kernel⟩
theorem scTried : FnScope nTried ["_law_pot_here", "_law_frame", "_law_step_here"] (defScope sTried) := ⟨rfl, rfl, rfl, by decide +kernel, rfl, by decide +kernel, by decide +kernel⟩
def spShown (C : Addr) : Sp := fun vs H Q _ => ∃ (p : Addr) (A : FrA) (vss : List (List V)) (pos : Nat) (m : M4) (n : Nat), vs = [.ref p] ∧ FrameAt C H p A vss pos m n ∧ (vss.length ≤ 900 ∧ n ≤ 900) ∧ pos ≤ vss.length ∧ (∀ us ∈ vss, StepV us ∧ intsIn us) ∧ smallM m ∧
  ∀ H', Ex H H' → Q (.str (PyData.list (shownF vss pos m n)).shown) H'
/-- the pot is none of the frame's places -/
structure Apart (p x : Addr) (A : FrA) : Prop where
  x : p ≠ x
  s : p ≠ A.aS
  m : p ≠ A.aM
  v : p ≠ A.aV
theorem FrameAt.drew {C : Addr} {H H' : Hp} {x p : Addr} {A : FrA} {vss : List (List V)} {pos : Nat} {m : M4} {n : Nat} (h : FrameAt C H x A vss pos m n) (d : Drew p H H') (pot : Pot H p) (a : Apart p x A) : FrameAt C H' x A vss pos m n :=
  h.but (l := [p]) (d.but) (d.tps pot) (fun z => a.x (List.mem_singleton.mp z).symm) (fun z => a.s (List.mem_singleton.mp z).symm) (fun z => a.m (List.mem_singleton.mp z).symm) (fun z => a.v (List.mem_singleton.mp z).symm)
theorem NxV.drew {H H' : Hp} {p : Addr} {sv : V} {nx : Option (List V)} (h : NxV H sv nx) (d : Drew p H H') (pot : Pot H p) : NxV H' sv nx := by
  rcases h with h | ⟨t, us, h1, h2, h3, h4⟩
  · exact .inl h
  · exact .inr ⟨t, us, h1, d.tps pot _ _ h2, h3, h4⟩
theorem odd_drew {H H' : Hp} {p : Addr} {v : V} {d : PyData} (ho : d ∈ oddD) (h : Dt H v d) (dr : Drew p H H') (pot : Pot H p) : Dt H' v d := by
  obtain ⟨x, y, hp, _⟩ := pot
  have ne : ∀ {a : Addr} {xs : List V}, H a = some (.lst xs) → xs.length ≠ 2 → a ≠ p := fun {a xs} h1 h2 e => by
    rw [e, hp] at h1
    cases h1
    exact h2 rfl
  cases h with
  | non => exact .non
  | bl b => exact .bl b
  | int i => exact .int i
  | str z => exact .str z
  | tup h1 h2 =>
    simp only [oddD, List.mem_cons, List.not_mem_nil, or_false, reduceCtorEq, false_or, PyData.tuple.injEq] at ho
    subst ho
    cases h2
    exact .tup (dr.at (fun e => by rw [e, hp] at h1; cases h1) h1) .nil
  | dct h1 h2 =>
    simp only [oddD, List.mem_cons, List.not_mem_nil, or_false, reduceCtorEq, false_or, PyData.dict.injEq] at ho
    subst ho
    cases h2
    exact .dct (dr.at (fun e => by rw [e, hp] at h1; cases h1) h1) .nil
  | lst h1 h2 =>
    simp only [oddD, List.mem_cons, List.not_mem_nil, or_false, reduceCtorEq, false_or, PyData.list.injEq] at ho
    rcases ho with rfl | rfl
    · cases h2
      exact .lst (dr.at (ne h1 (by decide)) h1) .nil
    · cases h2 with
      | cons a b =>
        cases b
        cases a
        exact .lst (dr.at (ne h1 (by show 1 ≠ 2; decide)) h1) (.cons (.int 1) .nil)
theorem dtAll_mem {H : Hp} : ∀ {vs : List V} {ds : List PyData} {v : V}, DtAll H vs ds → v ∈ vs → ∃ d ∈ ds, Dt H v d
  | _, _, _, .nil, h => nomatch h
  | _, _, _, .cons a b, h => by
    rcases List.mem_cons.mp h with rfl | h
    · exact ⟨_, List.mem_cons_self, a⟩
    · obtain ⟨d, h1, h2⟩ := dtAll_mem b h
      exact ⟨d, List.mem_cons_of_mem _ h1, h2⟩
def spTried (C : Addr) : Sp := fun vs H Q _ => ∃ (p x : Addr) (sv : V) (A : FrA) (vss : List (List V)) (pos : Nat) (m : M4) (n : Nat), vs = [.ref p, .ref x, sv] ∧ Pot H p ∧ Apart p x A ∧ FrameAt C H x A vss pos m n ∧ (vss.length ≤ 900 ∧ n ≤ 900) ∧ pos ≤ vss.length ∧ (∀ us ∈ vss, StepV us ∧ intsIn us) ∧ smallM m ∧ NxV H sv vss[pos]? ∧
  ∀ H', Drew p H H' → Q (.bl true) H'
section
variable {P : Program} {w : World} {K : PySem.W.Frag} {mg : Str → Option Value} {base : Heap}
theorem ok_shown {f C : Addr} {fd : FuncData} {k : Nat} (F : Fun K "_law_shown" "_law_shown" sShown f fd) (B : Blt mg) (T : FrC K mg C) (h1 : HasM P w K mg base CX0 k C "next_step" ["self"] (spNext C)) (h2 : HasM P w K mg base CX0 k C "next_index" ["self"] (spLook C fun _ pos _ _ => .int (pos : Int)))
    (h3 : HasM P w K mg base CX0 k C "variables" ["self"] (spVars C)) (h4 : HasM P w K mg base CX0 k C "is_over" ["self"] (spLook C fun vss pos _ _ => .bl (decide (pos = vss.length)))) (h5 : HasLen P w K mg base k C (spLook C fun _ _ _ n => .int (n : Int))) :
    FnG P w K mg base CX0 (k + 2) f fd ["_law_frame"] (spShown C) := by
  obtain ⟨f1, d1, G1, b1, m1⟩ := h1.ex
  obtain ⟨f2, d2, G2, b2, m2⟩ := h2.ex
  obtain ⟨f3, d3, G3, b3, m3⟩ := h3.ex
  obtain ⟨f4, d4, G4, b4, m4⟩ := h4.ex
  obtain ⟨f5, d5, G5, b5, i5, t5⟩ := h5.ex
  refine okG F scShown (fun vs H Q E h => by obtain ⟨_, _, _, _, _, _, rfl, _⟩ := h; rfl) (fun cdv A outer s H vs Q E hq hr h => ?_)
  obtain ⟨p, A', vss, pos, m, n, rfl, fr, few, hpos, hV, sm', q⟩ := h
  have hr0 : Room k _ := hr.mono (Nat.le_succ _)
  refine ⟨_, pss_one (ps_ret (pe_callB (call_reprG hq hr.units) (by rfl) B.repr bRepr (pa_cons (pe_lst (pa_cons (pe_meth0 (E := E0) (pv 0) T.cl m1 G1 hr0 b1 .nil pass0) (pa_cons (pe_meth0 (E := E0) (pv 0) T.cl m2 G2 hr0 b2 .nil pass0) (pa_cons (pe_meth0 (E := E0) (pv 0) T.cl m3 G3 hr0 b3 .nil pass0) (pa_cons (pe_meth0 (E := E0) (pv 0) T.cl m4 G4 hr0 b4 .nil pass0)
        (pa_cons (pe_callB (call_lenO i5 t5 G5 b5 hr) (by rfl) B.len bLen (pa_cons (pv 0) pa_nil)) pa_nil)))))) pa_nil))), ?_⟩
  refine ⟨.ref p, rfl, p, A'.dx, _, rfl, fr.ob, by rfl, p, A', vss, pos, m, n, rfl, fr, ⟨by omega, by omega⟩, hpos, fun v2 H2 e2 hv2 => ?_⟩
  have fr2 := fr.ex e2
  refine ⟨.ref p, rfl, p, A'.dx, _, rfl, fr2.ob, by rfl, p, A', vss, pos, m, n, rfl, fr2, ⟨by omega, by omega⟩, fun H3 e3 => ?_⟩
  have fr3 := fr2.ex e3
  refine ⟨.ref p, rfl, p, A'.dx, _, rfl, fr3.ob, by rfl, p, A', vss, pos, m, n, rfl, fr3, fun dd H4 zd e4 hd4 => ?_⟩
  have fr4 := fr3.ex e4
  refine ⟨.ref p, rfl, p, A'.dx, _, rfl, fr4.ob, by rfl, p, A', vss, pos, m, n, rfl, fr4, ⟨by omega, by omega⟩, fun H5 e5 => ?_⟩
  have fr5 := fr4.ex e5
  refine ⟨.ref p, rfl, p, A'.dx, _, rfl, fr5.ob, p, A', vss, pos, m, n, rfl, fr5, ⟨by omega, by omega⟩, fun H6 e6 => ⟨n, rfl, by omega, by show 5 ≤ sizeLine; decide, fun lt zt => ?_⟩⟩
  have e26 := ((e3.trans e4).trans e5).trans e6
  have e16 := e2.trans e26
  have nd2 : Dt H2 v2 (nextD vss pos) := by
    unfold nextD
    rcases hv2 with ⟨rfl, e⟩ | ⟨t, us, rfl, hus, hT⟩
    · rw [List.getElem?_eq_none (by omega)]
      exact .non
    · rw [hus]
      exact .tup hT (dtAll_flat (stepV_flat (hV us (List.mem_of_getElem? hus)).1))
  have eN := Ex.new (o := .lst [v2, .int (pos : Int), .ref dd, .bl (decide (pos = vss.length)), .int (n : Int)]) zt
  have told : Dt (upd H6 lt (.lst [v2, .int (pos : Int), .ref dd, .bl (decide (pos = vss.length)), .int (n : Int)])) (.ref lt) (.list (shownF vss pos m n)) :=
    .lst upd_same (.cons (Dt.ex (e26.trans eN) nd2) (.cons (.int _) (.cons (.dct (((e5.trans e6).trans eN) _ _ hd4) m.dt) (.cons (.bl _) (.cons (.int _) .nil)))))
  have fits := shown_fits (pos := pos) (n := n) hV sm' (by omega) (by omega)
  exact ⟨.ref lt, _, rfl, told, fits, q _ (e16.trans eN)⟩
theorem ok_tried {f C : Addr} {fd : FuncData} {k : Nat} (F : Fun K "_law_tried" "_law_tried" sTried f fd) (B : Blt mg) (T : FrC K mg C) (h1 : Has P w K mg base k "_law_draw" ["_law_pot_here", "_law_bound"] spDraw) (h2 : Has P w K mg base k "_law_pick" ["_law_pot_here", "_law_options"] spChoice)
    (h3 : Has P w K mg base k "_law_due" ["_law_step_here", "_law_at", "_law_is_plain_call", "_law_given"] spDue) (h4 : Has P w K mg base k "_law_shown" ["_law_frame"] (spShown C)) (h5 : Has P w K mg base k "_law_told" ["_law_frame", "_law_is_plain_call", "_law_given"] (spTold C))
    (h6 : HasM P w K mg base CX0 k C "next_index" ["self"] (spLook C fun _ pos _ _ => .int (pos : Int))) : FnG P w K mg base CX0 (k + 1) f fd ["_law_pot_here", "_law_frame", "_law_step_here"] (spTried C) := by
  obtain ⟨f1, d1, G1, b1, k1, g1⟩ := h1.ex
  obtain ⟨f2, d2, G2, b2, k2, g2⟩ := h2.ex
  obtain ⟨f3, d3, G3, b3, k3, g3⟩ := h3.ex
  obtain ⟨f4, d4, G4, b4, k4, g4⟩ := h4.ex
  obtain ⟨f5, d5, G5, b5, k5, g5⟩ := h5.ex
  obtain ⟨f6, d6, G6, b6, m6⟩ := h6.ex
  refine okG F scTried (fun vs H Q E h => by obtain ⟨_, _, _, _, _, _, _, _, rfl, _⟩ := h; rfl) (fun cdv A outer s H vs Q E hq hr h => ?_)
  obtain ⟨p, x, sv, A', vss, pos, m, n, rfl, pot, ap, fr, few, hpos, hV, sm', nx, q⟩ := h
  refine ⟨_, pss_cons (ps_set (i := 3) scTried.nd rfl (.inl rfl) (pe_lst (pa_cons pe_str (pa_cons pe_non (pa_cons pe_bl (pa_cons pe_bl (pa_cons pe_str (pa_cons (pe_lst pa_nil) (pa_cons (pe_tup pa_nil) (pa_cons pe_dnewK (pa_cons (pe_lst (pa_cons pe_int pa_nil)) (pa_cons pe_str (pa_cons pe_int pa_nil)))))))))))))
    (pss_cons (ps_for PassesOwn.never rfl (pi_range1 (by rfl) B.range (pa_cons pe_int pa_nil)) (pg_name (i := 4) scTried.nd rfl (.inl rfl))
      (pss_cons (ps_par (i := 5) (j := 6) (by rfl) scTried.nd rfl rfl (by decide) rfl rfl (pa_cons (pe_cmpR op_eq (callG G1 hq hr (by rfl) g1 k1 b1 .nil pass0 (pa_cons (pv 0) (pa_cons pe_int pa_nil))) pe_int (nomark _)) (pa_cons (callG G2 hq hr (by rfl) g2 k2 b2 .nil pass0 (pa_cons (pv 0) (pa_cons (pv 3) pa_nil))) pa_nil)) (by rfl))
      (pss_cons (ps_set (i := 7) scTried.nd rfl (.inl rfl) (callG G3 hq hr (by rfl) g3 k3 b3 .nil pass0 (pa_cons (pv 2) (pa_cons (pe_meth0 (E := E0) (pv 1) T.cl m6 G6 hr b6 .nil pass0) (pa_cons (pv 5) (pa_cons (pv 6) pa_nil))))))
      (pss_cons (ps_set (i := 8) scTried.nd rfl (.inl rfl) (callG G4 hq hr (by rfl) g4 k4 b4 .nil pass0 (pa_cons (pv 1) pa_nil)))
      (pss_one (ps_if (pt_cmpR op_ne (pv 7) (pe_callB (call_reprG hq hr.units) (by rfl) B.repr bRepr (pa_cons (pe_lst (pa_cons pe_str pa_nil)) pa_nil)) (nomark _))
        (pss_one (ps_if (PW.pt (pw_or (pt_cmpR op_ne (callG G5 hq hr (by rfl) g5 k5 b5 .nil pass0 (pa_cons (pv 1) (pa_cons (pv 5) (pa_cons (pv 6) pa_nil)))) (pv 7) (nomark _)) (pw_or1 (pt_cmpR op_ne (callG G4 hq hr (by rfl) g4 k4 b4 .nil pass0 (pa_cons (pv 1) pa_nil)) (pv 8) (nomark _))))) (pss_one (ps_ret pe_bl)) pss_nil)) pss_nil))))))
    (pss_one (ps_ret pe_bl))), ?_⟩
  -- the values
  refine ⟨by show 0 ≤ sizeLine; decide, fun a1 z1 => ⟨by show 0 ≤ sizeLine; decide, fun a2 z2 => fun a3 z3 => ⟨by show 1 ≤ sizeLine; decide, fun a4 z4 => ⟨by show 11 ≤ sizeLine; decide, fun L zL => ?_⟩⟩⟩⟩
  have x1 := Ex.new (o := .lst []) z1
  have h1' : upd H a1 (.lst []) a1 = some (.lst []) := upd_same
  generalize upd H a1 (.lst []) = A1 at x1 h1' z2 z3 z4 zL ⊢
  have x2 := Ex.new (o := .tup []) z2
  have h2' : upd A1 a2 (.tup []) a2 = some (.tup []) := upd_same
  generalize upd A1 a2 (.tup []) = A2 at x2 h2' z3 z4 zL ⊢
  have x3 := Ex.new (o := .dK []) z3
  have h3' : upd A2 a3 (.dK []) a3 = some (.dK []) := upd_same
  generalize upd A2 a3 (.dK []) = A3 at x3 h3' z4 zL ⊢
  have x4 := Ex.new (o := .lst [.int 1]) z4
  have h4' : upd A3 a4 (.lst [.int 1]) a4 = some (.lst [.int 1]) := upd_same
  generalize upd A3 a4 (.lst [.int 1]) = A4 at x4 h4' zL ⊢
  have x5 := Ex.new (o := .lst [.str "nothing", .non, .bl true, .bl false, .str "1", .ref a1, .ref a2, .ref a3, .ref a4, .str "", .int 3]) zL
  have h5' : upd A4 L (.lst [.str "nothing", .non, .bl true, .bl false, .str "1", .ref a1, .ref a2, .ref a3, .ref a4, .str "", .int 3]) L = some (.lst [.str "nothing", .non, .bl true, .bl false, .str "1", .ref a1, .ref a2, .ref a3, .ref a4, .str "", .int 3]) := upd_same
  generalize upd A4 L (.lst [.str "nothing", .non, .bl true, .bl false, .str "1", .ref a1, .ref a2, .ref a3, .ref a4, .str "", .int 3]) = A5 at x5 h5' ⊢
  have all5 : DtAll A5 [.str "nothing", .non, .bl true, .bl false, .str "1", .ref a1, .ref a2, .ref a3, .ref a4, .str "", .int 3] oddD :=
    .cons (.str _) (.cons .non (.cons (.bl _) (.cons (.bl _) (.cons (.str _) (.cons (.lst ((((x2.trans x3).trans x4).trans x5) _ _ h1') .nil) (.cons (.tup (((x3.trans x4).trans x5) _ _ h2') .nil) (.cons (.dct ((x4.trans x5) _ _ h3') .nil) (.cons (.lst (x5 _ _ h4') (.cons (.int 1) .nil)) (.cons (.str _) (.cons (.int 3) .nil))))))))))
  have each5 : ∀ v ∈ ([.str "nothing", .non, .bl true, .bl false, .str "1", .ref a1, .ref a2, .ref a3, .ref a4, .str "", .int 3] : List V), ∃ d ∈ oddD, Dt A5 v d := fun v hv => dtAll_mem all5 hv
  have l5 : ([.str "nothing", .non, .bl true, .bl false, .str "1", .ref a1, .ref a2, .ref a3, .ref a4, .str "", .int 3] : List V).length = 11 := rfl
  generalize ([.str "nothing", .non, .bl true, .bl false, .str "1", .ref a1, .ref a2, .ref a3, .ref a4, .str "", .int 3] : List V) = os at h5' each5 l5 all5
  have x15 := (((x1.trans x2).trans x3).trans x4).trans x5
  have pot5 := pot.ex x15
  have Lp : L ≠ p := fun e => by
    have z : H L = none := fresh_back (((x1.trans x2).trans x3).trans x4) zL
    obtain ⟨_, _, hp, _⟩ := pot
    rw [e, hp] at z
    cases z
  refine q_forR1 (n := 4) (ea_cons ev_c ea_nil) ⟨by decide, by decide⟩ (fun i σ' H' => (∃ y4 y5 y6 y7 y8, σ' = [some (.ref p), some (.ref x), some sv, some (.ref L), y4, y5, y6, y7, y8]) ∧ Drew p A5 H') (fun H1 e1 => ⟨⟨none, none, none, none, none, rfl⟩, Drew.of pot5 e1⟩) ?_ (fun σ' H' hP => s_ret ev_c fun H2 e2 => q H2 ((Drew.of pot x15).trans (hP.2.trans (Drew.of hP.2.pot e2))))
  rintro i σ' Ht hi ⟨⟨y4, y5, y6, y7, y8, rfl⟩, dt⟩
  refine ⟨.ref p, rfl, p, 2, rfl, by decide, by decide +kernel, dt.pot, fun c0 H1 a0 b0 r1 => ⟨rfl, ?_⟩⟩
  have d1 := dt.trans r1
  refine ⟨.ref p, rfl, .ref L, rfl, p, d1.pot, .inl ⟨L, os, rfl, Lp, d1.at Lp h5', by omega, by omega, fun gv H2 hgv r2 => ⟨_, gv, rfl, ?_⟩⟩⟩
  have d2 := d1.trans r2
  obtain ⟨d, hodd, hd5⟩ := each5 gv hgv
  have hd2 := odd_drew hodd hd5 d2 pot5
  have fr2 := (fr.ex x15).drew d2 pot5 ap
  have nx2 := (nx.ex x15).drew d2 pot5
  obtain ⟨hsh, hsm, _, _, _⟩ := odd_ok hodd
  dsimp only
  obtain ⟨c, hc⟩ : ∃ c : Bool, decide (V.int c0 = V.int 0) = c := ⟨_, rfl⟩
  rw [hc]
  refine q_asgAny ⟨sv, rfl, .ref x, rfl, x, A'.dx, _, rfl, fr2.ob, by rfl, x, A', vss, pos, m, n, rfl, fr2, ⟨by omega, by omega⟩, fun H3 e3 => ⟨.bl c, rfl, gv, rfl, sv, vss[pos]?, pos, c, gv, d, rfl, by omega, nx2.ex e3, Dt.ex e3 hd2, hsh, fun H4 e4 => ?_⟩⟩
  have e24 := e3.trans e4
  have hV' : ∀ us ∈ vss, StepV us := fun us hu => (hV us hu).1
  have shown : ∀ {σ : L2.St} {H5 : Hp}, σ[1]? = some (some (.ref x)) → Ex H2 H5 → Ev (tCall (spShown C) [] E0 (tCons (tVar 1) tNil)) σ H5 (.str (PyData.list (shownF vss pos m n)).shown) := fun {σ H5} hσ e5 => ev_call (ea_cons (ev_var hσ) ea_nil) fun H6 e6 Q q E => ⟨x, A', vss, pos, m, n, rfl, (fr2.ex e5).ex e6, few, hpos, hV, sm', q⟩
  refine q_asg (shown rfl e24) fun H5 e5 => ?_
  have e25 := e24.trans e5
  refine s_if (b := !decide (V.str (outD (outc vss[pos]? c d) pos).shown = V.str (PyData.list [.str "passed"]).shown)) (et_test (ev_op (ev_var rfl) (ev_reprL (el_lst (ea_cons ev_c ea_nil) (by show 1 ≤ 100000; decide)) (ds := [.str "passed"]) (.cons (.str _) .nil) out2_fits) (rv_ne rfl))) (fun hb H6 e6 => ?_) (fun hb H6 e6 => ?_)
  · have e26 := e25.trans e6
    have no2 : outc vss[pos]? c d ≠ 2 := fun z => by
      rw [z] at hb
      exact absurd hb (by rw [show outD 2 pos = .list [.str "passed"] from rfl, decide_eq_true rfl]; decide)
    refine s_if (b := false) (et_is (et_or (a := false) (b := false) (et_is (et_test (ev_op (ev_call (z := .str (outD (outc vss[pos]? c d) pos).shown) (ea_cons (ev_var rfl) (ea_cons (ev_var rfl) (ea_cons (ev_var rfl) ea_nil))) fun H7 e7 Q q E => ⟨x, c, gv, d, A', vss, pos, m, n, rfl, (fr2.ex e26).ex e7, few, hpos, hV', Dt.ex (e26.trans e7) hd2, hodd, no2, q⟩) (ev_var rfl) (rv_ne rfl))) (by rw [decide_eq_true rfl]; rfl)) fun _ => et_is (et_test (ev_op (shown rfl e26) (ev_var rfl) (rv_ne rfl))) (by rw [decide_eq_true rfl]; rfl)) rfl) (fun z => nomatch z) (fun _ H7 e7 => ?_)
    exact ⟨⟨_, _, _, _, _, rfl⟩, d2.trans (Drew.of d2.pot (e26.trans e7))⟩
  · exact ⟨⟨_, _, _, _, _, rfl⟩, d2.trans (Drew.of d2.pot (e25.trans e6))⟩
end
end Cr
namespace Cr
open PySem PySem.Spec PyProof.Rows L2 Evl
abbrev sRefd : Stmt := topS 46
abbrev nRefd : List Str := ["_law_thing", "_law_told_here", "_law_e"]
theorem scRefd : FnScope nRefd ["_law_thing"] (defScope sRefd) := ⟨rfl, rfl, rfl, by decide +kernel, rfl, by decide +kernel, by decide +kernel⟩
/-- Frame(..) -/
structure MkF (P : Program) (w : World) (K : PySem.W.Frag) (mg : Str → Option Value) (base : Heap) (k : Nat) (C CE : Addr) : Prop where
  ex : ∃ f fd, Mk K C f ∧ FnOk P w K mg base (L2.CX P w) k f fd ["self", "program"] (spFrI C CE) ∧ Binds K fd ["self", "program"] []
def spRefd : Sp := fun vs H Q _ => ∃ (v : V) (d : PyData) (i : Int), vs = [v] ∧ Dt H v d ∧ sm d = true ∧ dueOf none false d = some i ∧ ∀ L H', H L = none → Ex H H' → H' L = some (.lst [.str "program", .int i, .bl true]) → Q (.ref L) H'
/-- what is told of a program that is none -/
def progD (i : Int) : PyData := .list [.str "program", .int i, .bool true]
theorem prog_fits1 {i : Int} (h : i.natAbs ≤ 10 ^ 70) : Fits (progD i) :=
  (sz_list (sza_cons (sz_str (b := 8) (m := 0) (by decide +kernel) (by decide +kernel)) (sza_cons (sz_int (b := 0) h) (sza_cons (sz_bool (b := 0)) (sza_nil (b := 0) (m := 0)))))).fits (by decide) (by decide)
theorem ev_refd {te : TE} {σ : L2.St} {H : Hp} {d : PyData} {i : Int} (h : EvD te σ H d) (hs : sm d = true) (hi : dueOf none false d = some i) (hb : i.natAbs ≤ 10 ^ 70) : Ev (tCB rRepr (tCons (tCall spRefd [] E0 (tCons te tNil)) tNil)) σ H (.str (progD i).shown) := fun H1 e Q q =>
  h H1 e _ fun v H2 e2 hv => ⟨v, d, i, rfl, hv, hs, hi, fun L H3 _ e3 hL => ⟨.ref L, progD i, rfl, .lst hL (.cons (.str _) (.cons (.int _) (.cons (.bl _) .nil))), prog_fits1 hb, q H3 (e2.trans e3)⟩⟩
section
variable {P : Program} {w : World} {K : PySem.W.Frag} {mg : Str → Option Value} {base : Heap}
theorem ok_refd {f C CW CP CN CL CT CS CD : Addr} {fd : FuncData} {k : Nat} (F : Fun K "_law_refused" "_law_refused" sRefd f fd) (T : FrC K mg C) (N : Kinds K mg CW CP CN CL CT CS CD) (hM : MkF P w K mg base k C CP) (hK : HasK P w K mg base (k + 1) CW CP CN) :
    FnG P w K mg base CX0 (k + 2) f fd ["_law_thing"] spRefd := by
  obtain ⟨f1, d1, M1, G1, b1⟩ := hM.ex
  obtain ⟨f3, d3, G3, b3, k3, g3⟩ := hK.ex
  refine okG F scRefd (fun vs H Q E h => by obtain ⟨_, _, _, rfl, _⟩ := h; rfl) (fun cdv A outer s H vs Q E hq hr h => ?_)
  obtain ⟨v, d, i, rfl, hd, hs, hi, q⟩ := h
  refine ⟨_, pss_cons (ps_set (i := 1) scRefd.nd rfl (.inl rfl) pe_non)
    (pss_cons (ps_try_as (i := 2) (x := "InvalidProgram") (c := .ref CP) (Wout := fun _ _ _ _ => False) rfl rfl scRefd.nd rfl rfl ⟨by rfl, by decide, .inl N.gP⟩ takes0
        (fun Wx pn xe tk po => pss_one (ps_expr (pe_makeS (E := WE Wx) M1 G1 hr (by rfl) T.at_ b1 (fun σ => passAt tk σ) (pa_cons (pv 0) pa_nil))))
        (ts := fun a cls d => tAsg (tCallE (spKind CW CP CN) cls d a (tCons (tVar 2) tNil)) (gName 1))
        (fun a oe cls d pn hz hf => pss_one (ps_set (i := 1) scRefd.nd rfl (.inl rfl) (pe_callE G3 ⟨hr.dp, hr.un⟩ rfl List.mem_cons_self hz hf (by rfl) g3 k3 b3 (pa_cons (pv 2) pa_nil)))))
    (pss_one (ps_ret (pv 1)))), ?_⟩
  refine q_asg ev_c fun H1 e1 => ?_
  refine ⟨v, rfl, fun y dy zy zd ne => ?_⟩
  have x1 := Ex.new (o := .own y) zd
  have x2 := Ex.new (H := upd H1 dy (.own y)) (p := y) (o := .ins C dy []) (by rw [upd_ne ne.symm]; exact zy)
  have e12 := e1.trans (x1.trans x2)
  refine ⟨y, dy, v, d, rfl, upd_same, Dt.ex e12 hd, hs, fun vss A H' _ _ _ hn => ?_, fun i' hi' dx H' _ e' hx => ?_⟩
  · rw [hi] at hn
    cases hn
  · rw [hi] at hi'
    cases hi'
    refine ⟨true, N.mP, fun _ a ha => ⟨.ref a, rfl, rfl, .inr (.inl ⟨rfl, dx, i, rfl, hx, fun L H3 zL e3 hL => ?_⟩)⟩, fun z => nomatch z⟩
    exact s_ret (ev_var rfl) fun H4 e4 => q L H4 (fresh_back (e12.trans e') zL) (((e12.trans e').trans e3).trans e4) (e4 _ _ hL)
end
/-! ### where a program is wrong -/
theorem due_other {d : PyData} (h : ∀ ds, d ≠ .list ds) : dueOf none false d = some (-1) := by
  cases d with
  | list ds => exact absurd rfl (h ds)
  | _ => rfl
theorem due_at {ds : List PyData} {i : Nat} {x : PyData} (hl : ds.length ≤ 30) (hx : ds[i]? = some x) (hw : isBefore x ((ds.length : Int) - i - 1) = false) (hb : ∀ (j : Nat) (y : PyData), j < i → ds[j]? = some y → isBefore y ((ds.length : Int) - j - 1) = true) : dueOf none false (.list ds) = some (i : Int) := by
  have hi : i < ds.length := (List.getElem?_eq_some_iff.mp hx).1
  show (if ds.length > 30 then some (-1) else (firstBad none false ds).map fun i => (i : Int)) = _
  rw [if_neg (by omega), first_at hi ?_ ?_]
  · rfl
  · unfold wrongAt
    have eg : ds.getD i .none = x := by rw [List.getD_eq_getElem?_getD, hx]; rfl
    rw [eg]
    have ef : fitsIn none x ((ds.length : Int) - i - 1) = isBefore x ((ds.length : Int) - i - 1) := by unfold fitsIn; exact Bool.and_true _
    rw [ef, hw]
    rfl
  · intro j hj
    unfold wrongAt
    have hj' : j < ds.length := by omega
    have hy := List.getElem?_eq_getElem hj'
    have eg : ds.getD j .none = ds[j] := by rw [List.getD_eq_getElem?_getD, hy]; rfl
    rw [eg]
    have ef : fitsIn none ds[j] ((ds.length : Int) - j - 1) = isBefore ds[j] ((ds.length : Int) - j - 1) := by unfold fitsIn; exact Bool.and_true _
    rw [ef, hb j _ hj hy]
    rfl
end Cr
namespace Cr
open PySem PySem.Spec PyProof.Rows L2 Evl
abbrev sSpoR : Stmt := topS 47
abbrev nSpoR : List Str := ["_law_pot_here", "_law_steps", "_law_thing", "_law_word", "_law_number", "_law_at", "_law_odd"]
theorem scSpoR : FnScope nSpoR ["_law_pot_here", "_law_steps"] (defScope sSpoR) := ⟨rfl, rfl, rfl, by decide +kernel, rfl, by decide +kernel, by decide +kernel⟩
theorem cut_to (xs : List V) (i : Nat) : cutV xs none (some (i : Int)) = xs.take (min i xs.length) := by
  unfold cutV
  rw [HT.sIx_none, HT.sIx_nat, List.drop_zero, Nat.sub_zero]
theorem cut_from (xs : List V) (i : Nat) : cutV xs (some (i : Int)) none = xs.drop (min i xs.length) := by
  unfold cutV
  rw [HT.sIx_none, HT.sIx_nat]
  exact List.take_of_length_le (by rw [List.length_drop]; omega)
theorem sm_steps : ∀ {vss : List (List V)}, (∀ us ∈ vss, StepV us) → smAll (stepsD vss) = true
  | [], _ => rfl
  | u :: r, h => by
    show smAll (.tuple (u.map flD) :: stepsD r) = true
    rw [smAll, stepV_sm (h u List.mem_cons_self), sm_steps fun us hu => h us (List.mem_cons_of_mem _ hu)]
    rfl
theorem smAll_app : ∀ {xs ys : List PyData}, smAll xs = true → smAll ys = true → smAll (xs ++ ys) = true
  | [], _, _, h => h
  | x :: r, ys, h1, h2 => by
    rw [smAll, Bool.and_eq_true] at h1
    rw [List.cons_append, smAll, h1.1, smAll_app h1.2 h2]
    rfl
theorem smAll_take : ∀ {xs : List PyData} {n : Nat}, smAll xs = true → smAll (xs.take n) = true
  | _, 0, _ => by rw [List.take_zero]; rfl
  | [], _ + 1, _ => rfl
  | x :: r, n + 1, h => by
    rw [smAll, Bool.and_eq_true] at h
    rw [List.take_succ_cons, smAll, h.1, smAll_take h.2]
    rfl
theorem smAll_drop : ∀ {xs : List PyData} {n : Nat}, smAll xs = true → smAll (xs.drop n) = true
  | _, 0, h => by rw [List.drop_zero]; exact h
  | [], _ + 1, _ => rfl
  | x :: r, n + 1, h => by
    rw [smAll, Bool.and_eq_true] at h
    rw [List.drop_succ_cons]
    exact smAll_drop h.2
theorem stepsD_len (vss : List (List V)) : (stepsD vss).length = vss.length := by unfold stepsD; exact List.length_map _
/-- what is no program at all -/
def things (vss : List (List V)) : List PyData := [.none, .int 0, .str "", .tuple [], .tuple (stepsD vss), .dict [], .str "abc", .list (stepsD vss ++ List.replicate 31 (.tuple [.str "fail"]))]
theorem things_ok {vss : List (List V)} (hV : ∀ us ∈ vss, StepV us) (hl : vss.length ≤ 30) {d : PyData} (h : d ∈ things vss) : sm d = true ∧ dueOf none false d = some (-1) := by
  simp only [things, List.mem_cons, List.not_mem_nil, or_false] at h
  have e := stepsD_len vss
  rcases h with rfl | rfl | rfl | rfl | rfl | rfl | rfl | rfl
  · exact ⟨rfl, rfl⟩
  · exact ⟨rfl, rfl⟩
  · exact ⟨by decide +kernel, rfl⟩
  · exact ⟨rfl, rfl⟩
  · refine ⟨?_, rfl⟩
    rw [sm, sm_steps hV, decide_eq_true (by omega)]
    rfl
  · exact ⟨rfl, rfl⟩
  · exact ⟨by decide +kernel, rfl⟩
  · have l1 : (stepsD vss ++ List.replicate 31 (PyData.tuple [.str "fail"])).length = vss.length + 31 := by rw [List.length_append, List.length_replicate, e]
    refine ⟨?_, if_pos (by omega)⟩
    rw [sm, smAll_app (sm_steps hV) (by decide +kernel), decide_eq_true (by omega)]
    rfl
/-- the three programs of two steps -/
def twoD (w : Str) (x : PyData) : PyData := .list [.tuple [.str w, .str "a", x], .tuple [.str "fail"]]
def pairs3 : List PyData := [.tuple [.str "set", .int 1], .tuple [.str "skip", .int 1], .tuple [.str "set", .int 0]]
structure Two (w : Str) (n : Int) : Prop where
  good : dueOf none false (twoD w (.int n)) = none
  bad : dueOf none false (twoD w (.bool (decide (V.int n = V.int 1)))) = some 0
  s1 : sm (twoD w (.int n)) = true
  s2 : sm (twoD w (.bool (decide (V.int n = V.int 1)))) = true
  sh : SeqAt.shaped (.tuple [.str w, .str "a", .int n]) = true
  eq : PyData.eqv (.tuple [.str w, .str "a", .int n]) (.tuple [.str w, .str "a", .int n]) = true
theorem two_ok {d : PyData} (h : d ∈ pairs3) : ∃ w n, d = .tuple [.str w, .int n] ∧ Two w n := by
  simp only [pairs3, List.mem_cons, List.not_mem_nil, or_false] at h
  rcases h with rfl | rfl | rfl
  · exact ⟨_, _, rfl, by decide +kernel, by decide +kernel, by decide +kernel, by decide +kernel, by decide +kernel, by decide +kernel⟩
  · exact ⟨_, _, rfl, by decide +kernel, by decide +kernel, by decide +kernel, by decide +kernel, by decide +kernel, by decide +kernel⟩
  · exact ⟨_, _, rfl, by decide +kernel, by decide +kernel, by decide +kernel, by decide +kernel, by decide +kernel, by decide +kernel⟩
/-- what is put in -/
def oddP (k : Int) : List PyData := [.none, .tuple [], .tuple [.str "set", .str "a"], .tuple [.str "set", .str "e", .int 1], .tuple [.str "set", .str "a", .bool true], .list [.str "fail"], .tuple [.str "need", .str "A"], .tuple [.str "fail", .int 1], .str "fail"] ++ [.tuple [.str "skip", .str "a", .int 0], .tuple [.str "skip", .str "a", .int k], .tuple [.str "try", .str "m"], .tuple [.str "export", .str "x", .str "e"]]
theorem oddP_ok {k : Int} {d : PyData} (h : d ∈ oddP k) : sm d = true ∧ isBefore d (k - 1) = false := by
  have no : ∀ {d : PyData} {m : Int}, isStep d = false → isBefore d m = false := fun {d m} h => by unfold isBefore; rw [h]; rfl
  simp only [oddP, List.mem_cons, List.not_mem_nil, or_false, List.cons_append, List.nil_append] at h
  rcases h with rfl | rfl | rfl | rfl | rfl | rfl | rfl | rfl | rfl | rfl | rfl | rfl | rfl
  case inr.inr.inr.inr.inr.inr.inr.inr.inr.inr.inl =>
    refine ⟨by
      rw [sm, smAll, smAll, smAll, smAll, sm, sm, sm]
      exact (by decide +kernel : (decide (3 ≤ 1000) && (decide (("skip" : Str).length ≤ 1000) && (decide (("a" : Str).length ≤ 1000) && (true && true)))) = true), ?_⟩
    unfold isBefore
    have : skipOk (k - 1) (.tuple [.str "skip", .str "a", .int k]) = decide (k ≤ k - 1) := rfl
    rw [this, decide_eq_false (by omega), Bool.and_false]
  all_goals exact ⟨by decide +kernel, no (by decide +kernel)⟩
theorem before_mono {d : PyData} {m n : Int} (h : isBefore d m = true) (le : m ≤ n) : isBefore d n = true := by
  unfold isBefore at h ⊢
  rw [Bool.and_eq_true] at h
  rw [h.1, Bool.true_and]
  have h2 := h.2
  unfold skipOk at h2 ⊢
  cases e : skipLen d with
  | none => rfl
  | some i =>
    rw [e] at h2
    have h3 : i ≤ m := of_decide_eq_true h2
    exact decide_eq_true (by omega)
/-- a wrong one put in at a place -/
def putD (ds : List PyData) (at_ : Nat) (d : PyData) : List PyData := (ds.take at_ ++ [d]) ++ ds.drop at_
theorem put_due {vss : List (List V)} {at_ : Nat} {d : PyData} (hl : vss.length ≤ 29) (ha : at_ ≤ vss.length) (bf : ∀ (j : Nat) us, vss[j]? = some us → isBefore (.tuple (us.map flD)) ((vss.length : Int) - j - 1) = true) (hd : isBefore d ((vss.length : Int) - at_) = false) :
    dueOf none false (.list (putD (stepsD vss) at_ d)) = some (at_ : Int) := by
  have e := stepsD_len vss
  have l1 : (stepsD vss).take at_ = (stepsD vss).take at_ := rfl
  have lt : ((stepsD vss).take at_).length = at_ := by rw [List.length_take, e]; omega
  have len : (putD (stepsD vss) at_ d).length = vss.length + 1 := by
    unfold putD
    rw [List.length_append, List.length_append, lt, List.length_drop, e, List.length_singleton]
    omega
  refine due_at (x := d) (by omega) ?_ ?_ (fun j y hj hy => ?_)
  · unfold putD
    rw [List.getElem?_append_left (by rw [List.length_append, lt, List.length_singleton]; omega), List.getElem?_append_right (by omega), lt, Nat.sub_self]
    rfl
  · rw [len, show (((vss.length + 1 : Nat) : Int) - at_ - 1) = (vss.length : Int) - at_ by omega]
    exact hd
  · unfold putD at hy
    rw [List.getElem?_append_left (by rw [List.length_append, lt, List.length_singleton]; omega), List.getElem?_append_left (by omega), List.getElem?_take_of_lt hj] at hy
    unfold stepsD at hy
    rw [List.getElem?_map] at hy
    cases hv : vss[j]? with
    | none => rw [hv] at hy; cases hy
    | some us =>
      rw [hv] at hy
      cases hy
      rw [len]
      exact before_mono (bf j us hv) (by omega)
theorem put_sm {vss : List (List V)} {at_ : Nat} {d : PyData} (hV : ∀ us ∈ vss, StepV us) (hl : vss.length ≤ 29) (hd : sm d = true) : sm (.list (putD (stepsD vss) at_ d)) = true := by
  have e := stepsD_len vss
  have l1 : (putD (stepsD vss) at_ d).length ≤ 1000 := by
    unfold putD
    rw [List.length_append, List.length_append, List.length_take, List.length_drop, e, List.length_singleton]
    omega
  rw [sm, decide_eq_true l1]
  unfold putD
  rw [smAll_app (smAll_app (smAll_take (sm_steps hV)) (by rw [smAll, hd]; rfl)) (smAll_drop (sm_steps hV))]
  rfl
theorem dtAll_take {H : Hp} : ∀ {vs : List V} {ds : List PyData}, DtAll H vs ds → ∀ n : Nat, DtAll H (vs.take n) (ds.take n)
  | _, _, _, 0 => by rw [List.take_zero, List.take_zero]; exact .nil
  | _, _, .nil, _ + 1 => .nil
  | _, _, .cons a b, n + 1 => .cons a (dtAll_take b n)
theorem dtAll_drop {H : Hp} : ∀ {vs : List V} {ds : List PyData}, DtAll H vs ds → ∀ n : Nat, DtAll H (vs.drop n) (ds.drop n)
  | _, _, h, 0 => by rw [List.drop_zero, List.drop_zero]; exact h
  | _, _, .nil, _ + 1 => .nil
  | _, _, .cons a b, n + 1 => dtAll_drop b n
def scalD : PyData → Bool
  | .none | .bool _ | .int _ | .str _ => true
  | _ => false
def okP : PyData → Bool
  | .list ds => ds.all scalD && decide (ds.length ≠ 2)
  | .tuple ds => ds.all scalD
  | .dict _ => false
  | _ => true
theorem scal_any {H H' : Hp} {v : V} {d : PyData} (h : scalD d = true) (hd : Dt H v d) : Dt H' v d := by
  cases hd with
  | non => exact .non
  | bl b => exact .bl b
  | int i => exact .int i
  | str x => exact .str x
  | _ => exact nomatch h
theorem scal_all {H H' : Hp} : ∀ {vs : List V} {ds : List PyData}, ds.all scalD = true → DtAll H vs ds → DtAll H' vs ds
  | _, _, _, .nil => .nil
  | _, _, h, .cons a b => by
    rw [List.all_cons, Bool.and_eq_true] at h
    exact .cons (scal_any h.1 a) (scal_all h.2 b)
theorem okP_drew {H H' : Hp} {p : Addr} {v : V} {d : PyData} (ho : okP d = true) (h : Dt H v d) (dr : Drew p H H') (pot : Pot H p) : Dt H' v d := by
  obtain ⟨x, y, hp, _⟩ := pot
  cases h with
  | non => exact .non
  | bl b => exact .bl b
  | int i => exact .int i
  | str z => exact .str z
  | tup h1 h2 => exact .tup (dr.at (fun e => by rw [e, hp] at h1; cases h1) h1) (scal_all ho h2)
  | dct h1 h2 => exact nomatch ho
  | lst h1 h2 =>
    have ho' := Bool.and_eq_true_iff.mp ho
    refine .lst (dr.at (fun e => ?_) h1) (scal_all ho'.1 h2)
    rw [e, hp] at h1
    cases h1
    have l := dtAll_len h2
    exact of_decide_eq_true ho'.2 l.symm
theorem oddP_drew {k : Int} {H H' : Hp} {p : Addr} {v : V} {d : PyData} (ho : d ∈ oddP k) (h : Dt H v d) (dr : Drew p H H') (pot : Pot H p) : Dt H' v d := by
  refine okP_drew ?_ h dr pot
  simp only [oddP, List.mem_cons, List.not_mem_nil, or_false, List.cons_append, List.nil_append] at ho
  rcases ho with rfl | rfl | rfl | rfl | rfl | rfl | rfl | rfl | rfl | rfl | rfl | rfl | rfl <;> rfl
def spSpoR : Sp := fun vs H Q _ => ∃ (p D : Addr) (ys : List V) (vss : List (List V)), vs = [.ref p, .ref D] ∧ Pot H p ∧ D ≠ p ∧ H D = some (.lst ys) ∧ Steps H ys vss ∧ vss.length ≤ 29 ∧ (∀ us ∈ vss, StepV us) ∧ (∀ (j : Nat) us, vss[j]? = some us → isBefore (.tuple (us.map flD)) ((vss.length : Int) - j - 1) = true) ∧
  ∀ H', Drew p H H' → Q (.bl true) H'
section
variable {P : Program} {w : World} {K : PySem.W.Frag} {mg : Str → Option Value} {base : Heap}
theorem evd_tupleOf {K : PySem.W.Frag} {σ : L2.St} {H : Hp} {i : Nat} {D : Addr} {ys : List V} {ds : List PyData} (hσ : σ[i]? = some (some (.ref D))) (hD : H D = some (.lst ys)) (hy : DtAll H ys ds) : EvD (tCB (rTupleOf K) (tCons (tVar i) tNil)) σ H (.tuple ds) := fun H1 e Q q =>
  ⟨.ref D, hσ, D, ys, rfl, .inl ⟨sq_of (e _ _ hD), fun l hl => q (.ref l) _ (Ex.new hl) (.tup upd_same (DtAll.ex (e.trans (Ex.new hl)) hy))⟩⟩
theorem ok_spoR {f C CP : Addr} {fd : FuncData} {k : Nat} (F : Fun K "_law_spoilt_right" "_law_spoilt_right" sSpoR f fd) (B : Blt mg) (T : FrC K mg C) (hk : 1 ≤ k) (h1 : Has P w K mg base k "_law_draw" ["_law_pot_here", "_law_bound"] spDraw) (h2 : Has P w K mg base k "_law_pick" ["_law_pot_here", "_law_options"] spChoice)
    (h3 : Has P w K mg base k "_law_refused" ["_law_thing"] spRefd) (h4 : MkF P w K mg base (k - 1) C CP) (h5 : HasM P w K mg base CX0 k C "next_step" ["self"] (spNext C)) : FnG P w K mg base CX0 (k + 1) f fd ["_law_pot_here", "_law_steps"] spSpoR := by
  obtain ⟨f1, d1, G1, b1, k1, g1⟩ := h1.ex
  obtain ⟨f2, d2, G2, b2, k2, g2⟩ := h2.ex
  obtain ⟨f3, d3, G3, b3, k3, g3⟩ := h3.ex
  obtain ⟨f4, d4, M4', G4, b4⟩ := h4.ex
  obtain ⟨f5, d5, G5, b5, m5⟩ := h5.ex
  refine okG F scSpoR (fun vs H Q E h => by obtain ⟨_, _, _, _, rfl, _⟩ := h; rfl) (fun cdv A outer s H vs Q E hq hr h => ?_)
  obtain ⟨p, D, ys, vss, rfl, pot, Dp, hD, hS, hl, hV, bf, q⟩ := h
  have hr4 := hr.mono (j := k - 1 + 1) (by omega)
  refine ⟨_, pss_cons (ps_for PassesOwn.never rfl (pi_list (pe_lst (pa_cons pe_non (pa_cons pe_int (pa_cons pe_str (pa_cons (pe_tup pa_nil) (pa_cons (pe_callTy call_tuple_of (by rfl) B.tuple bTuple (pa_cons (pv 1) pa_nil)) (pa_cons pe_dnewK (pa_cons pe_str (pa_cons (pe_op op_cat (pv 1) (pe_op op_rep (pe_lst (pa_cons (pe_tup (pa_cons pe_str pa_nil)) pa_nil)) pe_int)) pa_nil)))))))))) (pg_name (i := 2) scSpoR.nd rfl (.inl rfl))
      (pss_one (ps_if (pt_cmpR op_ne (pe_callB (call_reprG hq hr.units) (by rfl) B.repr bRepr (pa_cons (callG G3 hq hr (by rfl) g3 k3 b3 .nil pass0 (pa_cons (pv 2) pa_nil)) pa_nil)) (pe_callB (call_reprG hq hr.units) (by rfl) B.repr bRepr (pa_cons (pe_lst (pa_cons pe_str (pa_cons (pe_un un_neg pe_int) (pa_cons pe_bl pa_nil)))) pa_nil)) (nomark _)) (pss_one (ps_ret pe_bl)) pss_nil)))
    (pss_cons (ps_for PassesOwn.never rfl (pi_list (pe_lst (pa_cons (pe_tup (pa_cons pe_str (pa_cons pe_int pa_nil))) (pa_cons (pe_tup (pa_cons pe_str (pa_cons pe_int pa_nil))) (pa_cons (pe_tup (pa_cons pe_str (pa_cons pe_int pa_nil))) pa_nil))))) (pg_tup rfl (pgs_cons (pg_name (i := 3) scSpoR.nd rfl (.inl rfl)) (pgs_cons (pg_name (i := 4) scSpoR.nd rfl (.inl rfl)) pgs_nil)))
      (pss_cons (ps_if (pt_cmpR (op_neDt hr.units) (pe_meth0 (E := E0) (pe_make (E := E0) M4' G4 hr4 (by rfl) T.at_ b4 .nil passL (pa_cons (pe_lst (pa_cons (pe_tup (pa_cons (pv 3) (pa_cons pe_str (pa_cons (pv 4) pa_nil)))) (pa_cons (pe_tup (pa_cons pe_str pa_nil)) pa_nil))) pa_nil)) T.cl m5 G5 hr b5 .nil pass0) (pe_tup (pa_cons (pv 3) (pa_cons pe_str (pa_cons (pv 4) pa_nil)))) (nomark _)) (pss_one (ps_ret pe_bl)) pss_nil)
      (pss_one (ps_if (pt_cmpR op_ne (pe_callB (call_reprG hq hr.units) (by rfl) B.repr bRepr (pa_cons (callG G3 hq hr (by rfl) g3 k3 b3 .nil pass0 (pa_cons (pe_lst (pa_cons (pe_tup (pa_cons (pv 3) (pa_cons pe_str (pa_cons (pe_cmpR op_eq (pv 4) pe_int (nomark _)) pa_nil)))) (pa_cons (pe_tup (pa_cons pe_str pa_nil)) pa_nil))) pa_nil)) pa_nil)) (pe_callB (call_reprG hq hr.units) (by rfl) B.repr bRepr (pa_cons (pe_lst (pa_cons pe_str (pa_cons pe_int (pa_cons pe_bl pa_nil)))) pa_nil)) (nomark _)) (pss_one (ps_ret pe_bl)) pss_nil))))
    (pss_cons (ps_set (i := 5) scSpoR.nd rfl (.inl rfl) (callG G1 hq hr (by rfl) g1 k1 b1 .nil pass0 (pa_cons (pv 0) (pa_cons (pe_op op_add (pe_callB call_len_seq (by rfl) B.len bLen (pa_cons (pv 1) pa_nil)) pe_int) pa_nil))))
    (pss_cons (ps_set (i := 6) scSpoR.nd rfl (.inl rfl) (pe_lst (pa_cons pe_non (pa_cons (pe_tup pa_nil) (pa_cons (pe_tup (pa_cons pe_str (pa_cons pe_str pa_nil))) (pa_cons (pe_tup (pa_cons pe_str (pa_cons pe_str (pa_cons pe_int pa_nil)))) (pa_cons (pe_tup (pa_cons pe_str (pa_cons pe_str (pa_cons pe_bl pa_nil)))) (pa_cons (pe_lst (pa_cons pe_str pa_nil)) (pa_cons (pe_tup (pa_cons pe_str (pa_cons pe_str pa_nil))) (pa_cons (pe_tup (pa_cons pe_str (pa_cons pe_int pa_nil))) (pa_cons pe_str pa_nil)))))))))))
    (pss_cons (ps_set (i := 6) scSpoR.nd rfl (.inl rfl) (pe_op op_cat (pv 6) (pe_lst (pa_cons (pe_tup (pa_cons pe_str (pa_cons pe_str (pa_cons pe_int pa_nil)))) (pa_cons (pe_tup (pa_cons pe_str (pa_cons pe_str (pa_cons (pe_op op_add (pe_op op_sub (pe_callB call_len_seq (by rfl) B.len bLen (pa_cons (pv 1) pa_nil)) (pv 5)) pe_int) pa_nil)))) (pa_cons (pe_tup (pa_cons pe_str (pa_cons pe_str pa_nil))) (pa_cons (pe_tup (pa_cons pe_str (pa_cons pe_str (pa_cons pe_str pa_nil)))) pa_nil)))))))
    (pss_cons (ps_set (i := 2) scSpoR.nd rfl (.inl rfl) (pe_op op_cat (pe_op op_cat (pe_slice sl_list (pv 1) po_none (po_some (pv 5))) (pe_lst (pa_cons (callG G2 hq hr (by rfl) g2 k2 b2 .nil pass0 (pa_cons (pv 0) (pa_cons (pv 6) pa_nil))) pa_nil))) (pe_slice sl_list (pv 1) (po_some (pv 5)) po_none)))
    (pss_one (ps_ret (pe_cmpR op_eq (pe_callB (call_reprG hq hr.units) (by rfl) B.repr bRepr (pa_cons (callG G3 hq hr (by rfl) g3 k3 b3 .nil pass0 (pa_cons (pv 2) pa_nil)) pa_nil)) (pe_callB (call_reprG hq hr.units) (by rfl) B.repr bRepr (pa_cons (pe_lst (pa_cons pe_str (pa_cons (pv 5) (pa_cons pe_bl pa_nil)))) pa_nil)) (nomark _))))))))), ?_⟩
  have lS := hS.length
  have eS := stepsD_len vss
  have hy : ∀ {H' : Hp}, Ex H H' → DtAll H' ys (stepsD vss) := fun e => DtAll.ex e (hS.dt fun us hu => stepV_flat (hV us hu))
  have steps : ∀ {σ : L2.St} {H' : Hp}, σ[1]? = some (some (.ref D)) → Ex H H' → EvD (tVar 1) σ H' (.list (stepsD vss)) := fun hσ e => evd_of (ev_var hσ) (.lst (e _ _ hD) (hy e))
  -- what is no program
  refine s_forD (ds := things vss) (evd_lst (evda_cons evd_non (evda_cons evd_int (evda_cons evd_str (evda_cons (evd_tup evda_nil (by decide)) (evda_cons (evd_tupleOf rfl hD (hy (Ex.refl H))) (evda_cons evd_dnew (evda_cons evd_str (evda_cons (evd_cat (steps rfl (Ex.refl H)) (evd_rep (n := 31) (evd_lst (evda_cons (evd_tup (evda_cons evd_str evda_nil) (by decide)) evda_nil) (by decide)) (by decide)) (by rw [eS, List.length_replicate]; omega)) evda_nil)))))))) (by show 8 ≤ 1000; decide))
    (fun σ' => ∃ y2, σ' = [some (.ref p), some (.ref D), y2, none, none, none, none]) ⟨none, rfl⟩ ?_ ?_
  · rintro H1 e1 v d σ' H' hd e' hv ⟨y2, rfl⟩
    obtain ⟨h1, h2⟩ := things_ok hV (by omega) hd
    refine s_if (b := false) (et_is (et_test (ev_op (ev_refd (i := -1) (evd_of (ev_var rfl) hv) h1 h2 (by decide)) (ev_reprL (el_lst (ea_cons ev_c (ea_cons (ev_un ev_c ru_neg) (ea_cons ev_c ea_nil))) (by show 3 ≤ 100000; decide)) (ds := [.str "program", .int (-1), .bool true]) (.cons (.str _) (.cons (.int _) (.cons (.bl _) .nil))) (prog_fits1 (i := -1) (by decide))) (rv_ne rfl))) (by show (!decide (V.str (progD (-1)).shown = V.str (progD (-1)).shown)) = false; rw [decide_eq_true rfl]; rfl)) (fun z => nomatch z) (fun _ H3 e3 => ⟨⟨_, rfl⟩, e'.trans e3⟩)
  rintro σ' Ha ⟨y2, rfl⟩ ea
  -- three programs of two steps
  refine s_forD (ds := pairs3) (evd_lst (evda_cons (evd_tup (evda_cons evd_str (evda_cons evd_int evda_nil)) (by decide)) (evda_cons (evd_tup (evda_cons evd_str (evda_cons evd_int evda_nil)) (by decide)) (evda_cons (evd_tup (evda_cons evd_str (evda_cons evd_int evda_nil)) (by decide)) evda_nil))) (by decide))
    (fun σ' => ∃ y3 y4, σ' = [some (.ref p), some (.ref D), y2, y3, y4, none, none]) ⟨none, none, rfl⟩ ?_ ?_
  · rintro H1 e1 v d σ' H' hd e' hv ⟨y3, y4, rfl⟩
    obtain ⟨wd, n, rfl, tw⟩ := two_ok hd
    cases hv with
    | @tup t xs _ ht hx =>
    cases hx with
    | cons hx1 hx =>
    cases hx with
    | cons hx2 hx =>
    cases hx
    cases hx1
    cases hx2
    refine ⟨t, _, rfl, st_of ht, rfl, _, _, rfl, _, _, rfl, rfl, ?_⟩
    have lit : ∀ {x : PyData} {tx : TE} {σ : L2.St} {Hx : Hp}, σ[3]? = some (some (.str wd)) → EvD tx σ Hx x → EvD (tLst (tCons (tTup (tCons (tVar 3) (tCons (tC (.str "a")) (tCons tx tNil)))) (tCons (tTup (tCons (tC (.str "fail")) tNil)) tNil))) σ Hx (twoD wd x) := fun {x tx σ Hx} h3 hx =>
      evd_lst (evda_cons (evd_tup (evda_cons (evd_of (ev_var h3) (.str wd)) (evda_cons evd_str (evda_cons hx evda_nil))) (by show 3 ≤ 1000; decide)) (evda_cons (evd_tup (evda_cons evd_str evda_nil) (by decide)) evda_nil)) (by show 2 ≤ 1000; decide)
    refine q_when (b := false) (et_test fun H3 e3 Q' q' => ?_) (fun z => nomatch z) (fun _ H3 e3 => ?_)
    · unfold tOp tMeth tMake
      refine evda_cons (lit (tx := tVar 4) rfl (evd_of (ev_var rfl) (.int n))) evda_nil H3 (Ex.refl H3) _ fun lvs H4 e4 hlvs => ?_
      cases hlvs with
      | @cons lv _ _ _ hlv hn =>
      cases hn
      intro x dx zx zd ne
      have x1 := Ex.new (o := .own x) zd
      have x2 := Ex.new (H := upd H4 dx (.own x)) (p := x) (o := .ins C dx []) (by rw [upd_ne ne.symm]; exact zx)
      refine ⟨x, dx, lv, twoD wd (.int n), rfl, upd_same, Dt.ex (x1.trans x2) hlv, tw.s1, fun vss2 A2 H5 ed hV2 l2 _ fr5 _ _ _ bt => ?_, fun i hi => by rw [tw.good] at hi; cases hi⟩
      have e45 : Ex H4 H5 := fun a o h => bt a o (fun z => by rw [List.mem_singleton.mp z, zx] at h; cases h) (x2 _ _ (x1 _ _ h))
      obtain ⟨us, r, rfl, hus⟩ : ∃ us r, vss2 = us :: r ∧ us.map flD = [.str wd, .str "a", .int n] := by
        cases vss2 with
        | nil => exact nomatch ed
        | cons us r =>
          refine ⟨us, r, rfl, ?_⟩
          have z : [PyData.tuple [.str wd, .str "a", .int n], .tuple [.str "fail"]] = .tuple (us.map flD) :: stepsD r := PyData.list.inj ed
          have z2 := (List.cons.inj z).1
          exact (PyData.tuple.inj z2).symm
      refine ⟨rfl, x, A2.dx, _, rfl, fr5.ob, by rfl, x, A2, us :: r, 0, .zero, 0, rfl, fr5, ⟨by omega, by omega⟩, Nat.zero_le _, fun v2 H6 e6 hv2 => ?_⟩
      rcases hv2 with ⟨_, z⟩ | ⟨t6, us6, rfl, h6, hT⟩
      · cases z
      · cases h6
        refine evd_tup (evda_cons (evd_of (ev_var rfl) (.str wd)) (evda_cons evd_str (evda_cons (evd_of (ev_var rfl) (.int n)) evda_nil))) (by show 3 ≤ 1000; decide) H6 (Ex.refl H6) _ fun y H7 e7 hy7 => ⟨.tuple (us.map flD), _, .tup (e7 _ _ hT) (dtAll_flat (stepV_flat (hV2 us List.mem_cons_self))), hy7, by rw [hus]; exact tw.sh, tw.sh, ?_⟩
        rw [hus, tw.eq]
        exact q' H7 (((e4.trans e45).trans e6).trans e7)
    · refine s_if (b := false) (et_is (et_test (ev_op (ev_refd (i := 0) (lit rfl (evd_of (ev_op (ev_var rfl) ev_c (rv_eq rfl)) (.bl _))) tw.s2 tw.bad (by decide)) (ev_reprL (el_lst (ea_cons ev_c (ea_cons ev_c (ea_cons ev_c ea_nil))) (by show 3 ≤ 100000; decide)) (ds := [.str "program", .int 0, .bool true]) (.cons (.str _) (.cons (.int _) (.cons (.bl _) .nil))) (prog_fits1 (i := 0) (by decide))) (rv_ne rfl))) (by show (!decide (V.str (progD 0).shown = V.str (progD 0).shown)) = false; rw [decide_eq_true rfl]; rfl)) (fun z => nomatch z) (fun _ H4 e4 => ⟨⟨_, _, rfl⟩, (e'.trans e3).trans e4⟩)
  rintro σ' Hb ⟨y3, y4, rfl⟩ eb
  have eab := ea.trans eb
  dsimp only
  -- the place
  refine q_asgAny ⟨.ref p, rfl, ?_⟩
  refine ev_op (ev_len (K := K) (ev_var rfl) (sq_of (eab _ _ hD))) ev_c rv_I0 Hb (Ex.refl Hb) _ fun Hc ec => ?_
  refine ⟨p, (ys.length : Int) + 1, rfl, by omega, ?_, pot.ex (eab.trans ec), fun at' Hd a0 a1 r1 => ?_⟩
  · rw [show ((ys.length : Int) + 1) = ((ys.length + 1 : Nat) : Int) by omega, Int.natAbs_natCast]
    exact Nat.lt_of_le_of_lt (Nat.log2_le_self _) (by omega)
  obtain ⟨at_, rfl⟩ := Int.eq_ofNat_of_zero_le a0
  have ha : at_ ≤ vss.length := by omega
  have eac := eab.trans ec
  have potc := pot.ex eac
  have hDd : Hd D = some (.lst ys) := r1.at Dp (eac _ _ hD)
  have hSd : Steps Hd ys vss := (hS.tps (Ex.tps eac)).tps (r1.tps potc)
  have hyd : ∀ {H' : Hp}, Ex Hd H' → DtAll H' ys (stepsD vss) := fun e => DtAll.ex e (hSd.dt fun us hu => stepV_flat (hV us hu))
  -- what is put in
  refine q_asgAny ?_
  refine (evd_lst (ds := [.none, .tuple [], .tuple [.str "set", .str "a"], .tuple [.str "set", .str "e", .int 1], .tuple [.str "set", .str "a", .bool true], .list [.str "fail"], .tuple [.str "need", .str "A"], .tuple [.str "fail", .int 1], .str "fail"]) (evda_cons evd_non (evda_cons (evd_tup evda_nil (by decide)) (evda_cons (evd_tup (evda_cons evd_str (evda_cons evd_str evda_nil)) (by decide)) (evda_cons (evd_tup (evda_cons evd_str (evda_cons evd_str (evda_cons evd_int evda_nil))) (by decide)) (evda_cons (evd_tup (evda_cons evd_str (evda_cons evd_str (evda_cons evd_bl evda_nil))) (by decide))
    (evda_cons (evd_lst (evda_cons evd_str evda_nil) (by decide)) (evda_cons (evd_tup (evda_cons evd_str (evda_cons evd_str evda_nil)) (by decide)) (evda_cons (evd_tup (evda_cons evd_str (evda_cons evd_int evda_nil)) (by decide)) (evda_cons evd_str evda_nil))))))))) (by decide)) Hd (Ex.refl Hd) _ fun ov He ee ho => ?_
  refine q_asgAny ?_
  refine (evd_cat (evd_of (ev_var rfl) ho) (evd_lst (ds := [.tuple [.str "skip", .str "a", .int 0], .tuple [.str "skip", .str "a", .int ((ys.length : Int) - (at_ : Int) + 1)], .tuple [.str "try", .str "m"], .tuple [.str "export", .str "x", .str "e"]]) (evda_cons (evd_tup (evda_cons evd_str (evda_cons evd_str (evda_cons evd_int evda_nil))) (by decide)) (evda_cons (evd_tup (evda_cons evd_str (evda_cons evd_str (evda_cons (evd_of (ev_op (ev_op (ev_len (K := K) (ev_var rfl) (sq_of (ee _ _ hDd))) (ev_var rfl) rv_I0) ev_c rv_I0) (.int _)) evda_nil))) (by show 3 ≤ 1000; decide))
    (evda_cons (evd_tup (evda_cons evd_str (evda_cons evd_str evda_nil)) (by decide)) (evda_cons (evd_tup (evda_cons evd_str (evda_cons evd_str (evda_cons evd_str evda_nil))) (by decide)) evda_nil)))) (by show 4 ≤ 1000; decide)) (by show 9 + 4 ≤ 1000; decide)) He (Ex.refl He) _ fun ov2 Hf ef ho2 => ?_
  have ho2 : Dt Hf ov2 (.list (oddP ((ys.length : Int) - (at_ : Int) + 1))) := ho2
  obtain ⟨o, os, rfl, hos, dos⟩ := dt_lst ho2
  have los : os.length = 13 := dtAll_len dos
  have edf := ee.trans ef
  have potd := r1.pot
  have potf := potd.ex edf
  have op : o ≠ p := fun e => by
    obtain ⟨_, _, hp, _⟩ := potf
    rw [e, hp] at hos
    cases hos
    cases los
  -- the spoilt list
  refine q_asgAny ?_
  refine el_sl (K := K) (ev_var rfl) eo_none (eo_some (ev_var rfl)) (sq_of (edf _ _ hDd)) Hf (Ex.refl Hf) _ fun s1 Hg zg eg hs1 => ?_
  have potg := potf.ex eg
  refine ⟨.ref p, rfl, .ref o, rfl, p, potg, .inl ⟨o, os, rfl, op, eg _ _ hos, by omega, by omega, fun gv Hh hgv r2 => ?_⟩⟩
  obtain ⟨d, hd, hdf⟩ := dtAll_mem' dos hgv
  obtain ⟨sd, bd⟩ := oddP_ok hd
  have hdh : Dt Hh gv d := oddP_drew hd (Dt.ex eg hdf) r2 potg
  have s1p : s1 ≠ p := (Drew.refl potf).neq zg
  refine ⟨by show 1 ≤ sizeLine; decide, fun s2 z2 => ?_⟩
  have x1 := Ex.new (o := .lst [gv]) z2
  have h2' : upd Hh s2 (.lst [gv]) s2 = some (.lst [gv]) := upd_same
  generalize upd Hh s2 (.lst [gv]) = B1 at x1 h2' ⊢
  have hs1h := r2.at s1p hs1
  have c1 := cut_to ys at_
  rw [show min at_ ys.length = at_ by omega] at c1
  rw [c1] at hs1h
  refine ⟨s1, s2, ys.take at_, [gv], rfl, rfl, x1 _ _ hs1h, h2', ?_, fun s3 z3 => ?_⟩
  · rw [List.length_take, List.length_singleton]
    exact Nat.le_trans (show min at_ ys.length + 1 ≤ 1000 by omega) (by decide)
  have x2 := Ex.new (o := .lst (ys.take at_ ++ [gv])) z3
  have h3' : upd B1 s3 (.lst (ys.take at_ ++ [gv])) s3 = some (.lst (ys.take at_ ++ [gv])) := upd_same
  generalize upd B1 s3 (.lst (ys.take at_ ++ [gv])) = B2 at x2 h3' ⊢
  have hDh : Hh D = some (.lst ys) := r2.at Dp ((edf.trans eg) _ _ hDd)
  refine el_sl (K := K) (ev_var rfl) (eo_some (ev_var rfl)) eo_none (sq_of ((x1.trans x2) _ _ hDh)) B2 (Ex.refl B2) _ fun s4 B3 z4 x3 hs4 => ?_
  have c2 := cut_from ys at_
  rw [show min at_ ys.length = at_ by omega] at c2
  rw [c2] at hs4
  refine ⟨s3, s4, _, _, rfl, rfl, x3 _ _ h3', hs4, ?_, fun s5 z5 => ?_⟩
  · rw [List.length_append, List.length_take, List.length_drop, List.length_singleton]
    exact Nat.le_trans (show min at_ ys.length + 1 + (ys.length - at_) ≤ 1000 by omega) (by decide)
  have x4 := Ex.new (o := .lst (ys.take at_ ++ [gv] ++ ys.drop at_)) z5
  have h5' : upd B3 s5 (.lst (ys.take at_ ++ [gv] ++ ys.drop at_)) s5 = some (.lst (ys.take at_ ++ [gv] ++ ys.drop at_)) := upd_same
  generalize upd B3 s5 (.lst (ys.take at_ ++ [gv] ++ ys.drop at_)) = B4 at x4 h5' ⊢
  have x14 := ((x1.trans x2).trans x3).trans x4
  have hyh : DtAll B4 ys (stepsD vss) := by
    have z : Steps Hh ys vss := (hSd.tps (Ex.tps (edf.trans eg))).tps (r2.tps potg)
    exact DtAll.ex x14 (z.dt fun us hu => stepV_flat (hV us hu))
  have dth : Dt B4 (.ref s5) (.list (putD (stepsD vss) at_ d)) := .lst h5' (dtAll_app (dtAll_app (dtAll_take hyh at_) (.cons (Dt.ex x14 hdh) .nil)) (dtAll_drop hyh at_))
  have due := put_due (d := d) (by omega) ha bf (by rw [show (vss.length : Int) - (at_ : Int) = (ys.length : Int) - (at_ : Int) + 1 - 1 by omega]; exact bd)
  have small : ((at_ : Nat) : Int).natAbs ≤ 10 ^ 70 := small_nat (by omega)
  refine s_ret (ev_is (ev_op (ev_refd (evd_of (ev_var rfl) dth) (put_sm hV (by omega) sd) due small) (ev_reprL (el_lst (ea_cons ev_c (ea_cons (ev_var rfl) (ea_cons ev_c ea_nil))) (by show 3 ≤ 100000; decide)) (ds := [.str "program", .int (at_ : Int), .bool true]) (.cons (.str _) (.cons (.int _) (.cons (.bl _) .nil))) (prog_fits1 small)) (rv_eq rfl)) (by show V.bl (decide (V.str (progD (at_ : Int)).shown = V.str (progD (at_ : Int)).shown)) = V.bl true; rw [decide_eq_true rfl])) fun B5 x5 => ?_
  exact q B5 ((((Drew.of pot eac).trans r1).trans (Drew.of r1.pot (edf.trans eg))).trans (r2.trans (Drew.of r2.pot (x14.trans x5))))
end
end Cr
namespace Cr
open PySem PySem.Spec PyProof.Rows L2 Evl
abbrev sLaw : Stmt := topS 48
abbrev nLaw : List Str := ["_law_script", "_law_index", "_law_pot_here", "_law_steps", "_law_frame", "_law_step_here"]
theorem scLaw : FnScope nLaw ["_law_script"] (defScope sLaw) := ⟨rfl, rfl, rfl, by decide +kernel, rfl, by decide +kernel, by decide +kernel⟩
/-- a list of ints is handed in, True comes out -/
def spLaw (K : PySem.W.Frag) : Sp := fun vs H Q _ => ∃ (a : Addr) (ns : List Int), vs = [.ref a] ∧ SqL K H a (ns.map V.int) ∧ ns.length ≤ 63 ∧ ∀ H', Q (.bl true) H'
theorem dV_flD {v : V} (h : bare8 v = true) : dV (flD v) = v := by
  cases v with
  | int i => rfl
  | str x => rfl
  | _ => exact nomatch h
theorem stepsD_inj : ∀ {a b : List (List V)}, (∀ us ∈ a, StepV us) → (∀ us ∈ b, StepV us) → stepsD a = stepsD b → a = b
  | [], [], _, _, _ => rfl
  | u :: a, v :: b, ha, hb, e => by
    have e' : PyData.tuple (u.map flD) :: stepsD a = PyData.tuple (v.map flD) :: stepsD b := e
    obtain ⟨e1, e2⟩ := List.cons.inj e'
    have e3 := PyData.tuple.inj e1
    have back : ∀ {us : List V}, us.all bare8 = true → (us.map flD).map dV = us := fun {us} h => by
      rw [List.map_map]
      exact (List.map_congr_left (g := id) fun v hv => dV_flD (List.all_eq_true.mp h v hv)).trans (List.map_id _)
    have : u = v := by
      rw [← back (ha u List.mem_cons_self).bare, ← back (hb v List.mem_cons_self).bare, e3]
    rw [this, stepsD_inj (fun us h => ha us (List.mem_cons_of_mem _ h)) (fun us h => hb us (List.mem_cons_of_mem _ h)) e2]
structure Loop3 (C : Addr) (H0 H : Hp) (p x D : Addr) (A : FrA) (vss : List (List V)) (ys : List V) (pos : Nat) (m : M4) (n : Nat) : Prop where
  ex : Ex H0 H
  pot : Pot H p
  fr : FrameAt C H x A vss pos m n
  hD : H D = some (.lst ys)
  st : Steps H ys vss
  le : pos ≤ vss.length
  np : n ≤ pos
  bd : m.all fun i => i.natAbs ≤ 10 ^ 30 * 2 ^ n
structure LoopC3 (H0 : Hp) (p x D : Addr) (A : FrA) (vss : List (List V)) : Prop where
  n0 : H0 p = none
  nx : H0 x = none
  nM : H0 A.aM = none
  nV : H0 A.aV = none
  DV : D ≠ A.aV
  pV : p ≠ A.aV
  pS : p ≠ A.aS
  pD : p ≠ D
  len : vss.length ≤ 29
  ok : ∀ us ∈ vss, StepV us ∧ intsIn us
  bf : ∀ (i : Nat) us, vss[i]? = some us → isBefore (.tuple (us.map flD)) ((vss.length : Int) - i - 1) = true
section
variable {C : Addr} {H0 H H' : Hp} {p x M d D : Addr} {A : FrA} {vss : List (List V)} {ys : List V} {pos n : Nat} {m : M4}
theorem pot_ne {a : Addr} {o : HO} (h : Pot H p) (z : H a = some o) (no : ∀ xs, o ≠ .lst xs) : p ≠ a := fun e => by
  obtain ⟨x, y, hp, _⟩ := h
  rw [e, z] at hp
  exact no _ (Option.some.inj hp)
theorem Loop3.grow (l : Loop3 C H0 H p x D A vss ys pos m n) (e : Ex H H') : Loop3 C H0 H' p x D A vss ys pos m n :=
  ⟨l.ex.trans e, l.pot.ex e, l.fr.ex e, e _ _ l.hD, l.st.tps (Ex.tps e), l.le, l.np, l.bd⟩
theorem Loop3.few (l : Loop3 C H0 H p x D A vss ys pos m n) (c : LoopC3 H0 p x D A vss) : (vss.length ≤ 900 ∧ n ≤ 900) ∧ smallM m := by
  have h1 := c.len
  have h2 := l.le
  have h3 := l.np
  refine ⟨⟨by omega, by omega⟩, M4.all_imp l.bd fun i hi => Nat.le_trans hi ?_⟩
  have : 2 ^ n ≤ 2 ^ 30 := Nat.pow_le_pow_right (by decide) (by omega)
  exact Nat.le_trans (Nat.mul_le_mul_left _ this) (by decide)
theorem Loop3.apart (l : Loop3 C H0 H p x D A vss ys pos m n) (c : LoopC3 H0 p x D A vss) : Apart p x A := ⟨pot_ne l.pot l.fr.ob (fun _ z => nomatch z), c.pS, pot_ne l.pot l.fr.me (fun _ z => nomatch z), c.pV⟩
/-- a number was drawn -/
theorem Loop3.drew (l : Loop3 C H0 H p x D A vss ys pos m n) (c : LoopC3 H0 p x D A vss) (r : Drew p H H') : Loop3 C H0 H' p x D A vss ys pos m n :=
  ⟨r.old l.ex c.n0, r.pot, l.fr.drew r l.pot (l.apart c), r.at c.pD.symm l.hD, l.st.tps (r.tps l.pot), l.le, l.np, l.bd⟩
/-- the frame has gone on -/
theorem Loop3.frame (l : Loop3 C H0 H p x D A vss ys pos m n) (c : LoopC3 H0 p x D A vss) (b : But (own x A) H H') : Ex H0 H' ∧ Pot H' p ∧ H' D = some (.lst ys) ∧ Steps H' ys vss := by
  obtain ⟨vis, v1, v2⟩ := l.fr.vi
  have nD : D ∉ own x A := fun z => by
    simp only [own, List.mem_cons, List.not_mem_nil, or_false] at z
    rcases z with e | e | e
    · have y := l.fr.ob; rw [← e, l.hD] at y; cases y
    · have y := l.fr.me; rw [← e, l.hD] at y; cases y
    · exact c.DV e
  have ap := l.apart c
  have nP : p ∉ own x A := fun z => by
    simp only [own, List.mem_cons, List.not_mem_nil, or_false] at z
    rcases z with e | e | e
    · exact ap.x e
    · exact ap.m e
    · exact ap.v e
  refine ⟨ex_but l.ex b fun a ha => ?_, l.pot.but b nP, b _ _ nD l.hD, l.st.tps (l.fr.tps b)⟩
  simp only [own, List.mem_cons, List.not_mem_nil, or_false] at ha
  rcases ha with rfl | rfl | rfl
  · exact c.nx
  · exact c.nM
  · exact c.nV
theorem bound_memo {us : List V} (h : PlainV us) (hi : intsIn us) (hb : m.all fun i => i.natAbs ≤ 10 ^ 30 * 2 ^ n) : (memo us m).all fun i => i.natAbs ≤ 10 ^ 30 * 2 ^ (n + 1) := by
  have two : 10 ^ 30 * 2 ^ (n + 1) = 2 * (10 ^ 30 * 2 ^ n) := by
    generalize (10 : Nat) ^ 30 = B
    rw [Nat.pow_succ, ← Nat.mul_assoc, Nat.mul_comm]
  have up : ∀ i : Int, i.natAbs ≤ 10 ^ 30 * 2 ^ n → i.natAbs ≤ 10 ^ 30 * 2 ^ (n + 1) := fun i h => by
    rw [two]
    omega
  cases h with
  | @set x i hx =>
    rw [memo_eq, if_pos rfl]
    refine M4.all_set (M4.all_imp hb up) ?_ x
    have z := hi i (by simp)
    have p1 : 1 ≤ 2 ^ (n + 1) := Nat.one_le_two_pow
    exact Nat.le_trans z (Nat.le_mul_of_pos_right _ p1)
  | @add x y hx hy =>
    rw [memo_add]
    refine M4.all_set (M4.all_imp hb up) ?_ x
    have z1 := M4.all_get hb x
    have z2 := M4.all_get hb y
    have z3 := Int.natAbs_add_le (m.get x) (m.get y)
    have z1' : (m.get x).natAbs ≤ 10 ^ 30 * 2 ^ n := z1
    have z2' : (m.get y).natAbs ≤ 10 ^ 30 * 2 ^ n := z2
    show (m.get x + m.get y).natAbs ≤ 10 ^ 30 * 2 ^ (n + 1)
    rw [two]
    omega
  | @skip x i hx hi' =>
    rw [memo_eq, if_neg ne_ss]
    exact M4.all_imp hb up
theorem bound_memoA {us : List V} {i : Int} (h : StepV us) (hi : intsIn us) (h30 : i.natAbs ≤ 10 ^ 30) (hb : m.all fun i => i.natAbs ≤ 10 ^ 30 * 2 ^ n) : (memoA us i m).all fun i => i.natAbs ≤ 10 ^ 30 * 2 ^ (n + 1) := by
  rcases plain_or h with pl | ov
  · rw [memoA_plain pl]
    exact bound_memo pl hi hb
  · rw [memoA_other ov]
    have p1 : 1 ≤ 2 ^ (n + 1) := Nat.one_le_two_pow
    have p2 : 2 ^ n ≤ 2 ^ (n + 1) := Nat.pow_le_pow_right (by decide) (Nat.le_succ n)
    have up := M4.all_imp hb fun i (h : i.natAbs ≤ 10 ^ 30 * 2 ^ n) => Nat.le_trans h (Nat.mul_le_mul_left (10 ^ 30) p2)
    unfold memoO
    cases givenX us with
    | none => exact up
    | some x => exact M4.all_set up (Nat.le_trans h30 (Nat.le_mul_of_pos_right _ p1)) x
theorem goes_le {us : List V} (c : LoopC3 H0 p x D A vss) (hu : vss[pos]? = some us) : pos + goes us m ≤ vss.length ∧ 1 ≤ goes us m := by
  have hlt : pos < vss.length := (List.getElem?_eq_some_iff.mp hu).1
  have bf := c.bf pos us hu
  rcases plain_or (c.ok us (List.mem_of_getElem? hu)).1 with pl | ov
  · cases pl with
    | @set x i hx =>
      rw [goes_eq, if_neg (fun z => ne_st z.1)]
      exact ⟨hlt, Nat.le_refl _⟩
    | @add x y hx hy => exact ⟨hlt, Nat.le_refl _⟩
    | @skip x i hx hi =>
      have bf' : (isStep (.tuple [.str "skip", .str x, .int i]) && decide (i ≤ (vss.length : Int) - pos - 1)) = true := bf
      have hle := of_decide_eq_true (Bool.and_eq_true_iff.mp bf').2
      rw [goes_eq]
      by_cases hg : ("skip" : Str) = "skip" ∧ m.get x > 0
      · rw [if_pos hg]
        omega
      · rw [if_neg hg]
        exact ⟨hlt, Nat.le_refl _⟩
  · rw [goes_other ov]
    exact ⟨hlt, Nat.le_refl _⟩
end
end Cr
namespace Cr
open PySem PySem.Spec PyProof.Rows L2 Evl
section
variable {P : Program} {w : World} {K : PySem.W.Frag} {mg : Str → Option Value} {base : Heap}
theorem ok_law {f C CW CP CN : Addr} {fd : FuncData} {k : Nat} (F : Fun K "law" "law" sLaw f fd) (B : Blt mg) (T : FrC K mg C) (hk : 1 ≤ k)
    (h1 : Has P w K mg base k "_law_pot" ["_law_script", "_law_index"] (spPot K)) (h2 : Has P w K mg base k "_law_draw" ["_law_pot_here", "_law_bound"] spDraw) (h3 : Has P w K mg base k "_law_program" ["_law_pot_here", "_law_targets", "_law_size", "_law_is_top"] spProgF) (h5 : Has P w K mg base k "_law_names" ["_law_pot_here", "_law_many"] spNames)
    (h4 : MkF P w K mg base (k - 1) C CP) (h6 : Has P w K mg base k "_law_tried" ["_law_pot_here", "_law_frame", "_law_step_here"] (spTried C)) (h7 : Has P w K mg base k "_law_spoilt_right" ["_law_pot_here", "_law_steps"] spSpoR)
    (hO : HasM P w K mg base CX0 k C "is_over" ["self"] (spLook C fun vss pos _ _ => .bl (decide (pos = vss.length)))) (hN : HasM P w K mg base CX0 k C "next_step" ["self"] (spNext C))
    (hR : HasM P w K mg base (L2.CX P w) k C "run_plain" ["self"] (spRun C CW)) (hP : HasPass P w K mg base k C CW CN) : FnG P w K mg base CX0 (k + 1) f fd ["_law_script"] (spLaw K) := by
  obtain ⟨f1, d1, G1, b1, k1, g1⟩ := h1.ex
  obtain ⟨f2, d2, G2, b2, k2, g2⟩ := h2.ex
  obtain ⟨f3, d3, G3, b3, k3, g3⟩ := h3.ex
  obtain ⟨f4, d4, M4', G4, b4⟩ := h4.ex
  obtain ⟨f5, d5, G5, b5, k5, g5⟩ := h5.ex
  obtain ⟨f6, d6, G6, b6, k6, g6⟩ := h6.ex
  obtain ⟨f7, d7, G7, b7, k7, g7⟩ := h7.ex
  obtain ⟨fO, dO, GO, bO, mO⟩ := hO.ex
  obtain ⟨fN, dN, GN, bN, mN⟩ := hN.ex
  obtain ⟨fR, dR, GR, bR, mR⟩ := hR.ex
  obtain ⟨fP, dP, GP, ⟨ds, vd, bP⟩, ⟨gP, kb⟩, mP⟩ := hP.ex
  refine okG F scLaw (fun vs H Q E h => by obtain ⟨_, _, rfl, _⟩ := h; rfl) (fun cdv A outer s H vs Q E hq hr h => ?_)
  obtain ⟨a, ns, rfl, hS, hlen, q⟩ := h
  have hr4 := hr.mono (j := k - 1 + 1) (by omega)
  refine ⟨_, pss_cons (ps_for PassesOwn.never rfl (pi_range1 (by rfl) B.range (pa_cons (pe_callB (call_max2 rfl) (by rfl) B.max bMax (pa_cons pe_int (pa_cons (pe_callB (call_min2 rfl) (by rfl) B.min bMin (pa_cons (pe_callB call_len_seq (by rfl) B.len bLen (pa_cons (pv 0) pa_nil)) (pa_cons pe_int pa_nil))) pa_nil))) pa_nil)) (pg_name (i := 1) scLaw.nd rfl (.inl rfl))
      (pss_cons (ps_set (i := 2) scLaw.nd rfl (.inl rfl) (callG G1 hq hr (by rfl) g1 k1 b1 .nil pass0 (pa_cons (pv 0) (pa_cons (pv 1) pa_nil))))
      (pss_cons (ps_set (i := 3) scLaw.nd rfl (.inl rfl) (callG G3 hq hr (by rfl) g3 k3 b3 .nil pass0 (pa_cons (pv 2) (pa_cons (callG G5 hq hr (by rfl) g5 k5 b5 .nil pass0 (pa_cons (pv 2) (pa_cons (pe_op op_add pe_int (callG G2 hq hr (by rfl) g2 k2 b2 .nil pass0 (pa_cons (pv 2) (pa_cons pe_int pa_nil)))) pa_nil))) (pa_cons (callG G2 hq hr (by rfl) g2 k2 b2 .nil pass0 (pa_cons (pv 2) (pa_cons pe_int pa_nil))) (pa_cons pe_bl pa_nil))))))
      (pss_cons (ps_set (i := 4) scLaw.nd rfl (.inl rfl) (pe_make (E := E0) M4' G4 hr4 (by rfl) T.at_ b4 .nil passL (pa_cons (pv 3) pa_nil)))
      (pss_cut (ps_while PassesOwn.never (pt_not (pt_val (pe_meth0 (E := E0) (pv 4) T.cl mO GO hr bO .nil pass0)))
        (pss_cons (ps_set (i := 5) scLaw.nd rfl (.inl rfl) (pe_meth0 (E := E0) (pv 4) T.cl mN GN hr bN .nil pass0))
        (pss_cons (ps_if (pt_not (pt_val (callG G6 hq hr (by rfl) g6 k6 b6 .nil pass0 (pa_cons (pv 2) (pa_cons (pv 4) (pa_cons (pv 5) pa_nil)))))) (pss_one (ps_ret pe_bl)) pss_nil)
        (pss_one (ps_if (pt_cmpR op_in_seq (pe_ix ix_tup (pv 5) pe_int (fun _ _ => rfl)) (pe_tup (pa_cons pe_str (pa_cons pe_str (pa_cons pe_str pa_nil)))) (by rfl)) (pss_one (ps_expr (pe_meth0 (E := E0) (pv 4) T.cl mR GR hr bR .nil passL)))
          (pss_one (ps_expr (methK0 (E := fun _ => E0) (pv 4) T.cl mP GP hr kb (fun σ pins H s e s' I c => passL pins σ H s e s' I c) (pk_cons (pe_ifExp (pt_cmpR op_in_seq (pe_ix ix_tup (pv 5) pe_int (fun _ _ => rfl)) (pe_tup (pa_cons pe_str (pa_cons pe_str pa_nil))) (by rfl)) pe_int pe_non) pk_nil)))))))))
      (pss_one (ps_if (PW.pt (pw_or (pt_not (pt_val (callG G6 hq hr (by rfl) g6 k6 b6 .nil pass0 (pa_cons (pv 2) (pa_cons (pv 4) (pa_cons pe_non pa_nil)))))) (pw_or1 (pt_not (pt_val (callG G7 hq hr (by rfl) g7 k7 b7 .nil pass0 (pa_cons (pv 2) (pa_cons (pv 3) pa_nil)))))))) (pss_one (ps_ret pe_bl)) pss_nil)))))))
    (pss_one (ps_ret pe_bl)), ?_⟩
  -- how many turns
  have cnt : ∃ N : Int, EvA (tCons (tCB rMax2 (tCons (tC (.int 1)) (tCons (tCB (fun xs H Q => ∃ i j, xs = [V.int i, V.int j] ∧ Q (.int (if j < i then j else i)) H) (tCons (tCB (rLenS K) (tCons (tVar 0) tNil)) (tCons (tC (.int 4)) tNil))) tNil))) tNil) (L2.start nLaw [.ref a]) H [.int N] ∧ 0 ≤ N ∧ N ≤ 100 := by
    refine ⟨_, ea_cons (ev_max2 ev_c (ev_cb (ea_cons (ev_cb (ea_cons (ev_var rfl) ea_nil) (rc_lenL hS)) (ea_cons ev_c ea_nil)) (fun H3 _ Q q => ⟨_, _, rfl, q H3 (Ex.refl H3)⟩))) ea_nil, ?_, ?_⟩
    · split <;> omega
    · split
      · split <;> omega
      · omega
  obtain ⟨N, hN, n0, n1⟩ := cnt
  refine q_forR1 hN ⟨n0, by omega⟩ (fun i σ' H' => (∃ y1 y2 y3 y4 y5, σ' = [some (.ref a), y1, y2, y3, y4, y5]) ∧ Ex H H') (fun H1 e1 => ⟨⟨none, none, none, none, none, rfl⟩, e1⟩) ?_ (fun σ' H' _ => q H')
  rintro i σ' Ht hi ⟨⟨y1, y2, y3, y4, y5, rfl⟩, et⟩
  -- the pot
  refine q_asgAny ⟨.ref a, rfl, .int (i : Int), rfl, a, ns, i, rfl, ex_l et hS, by omega, fun p H1 zp e1 pot => ?_⟩
  -- the steps
  refine q_asgAny ⟨.ref p, rfl, .ref p, rfl, .ref p, rfl, p, 3, rfl, by decide, by decide +kernel, pot, fun c4 H5 a4 b4' r5 => ⟨1, c4, rfl, rfl, p, (1 + c4).toNat, ?_, r5.pot, by omega, fun tg ts H6 ztg htg lts hts r6 => ⟨.ref p, rfl, p, 13, rfl, by decide, by decide +kernel, r6.pot, fun c5 H6' a5 b5' r6' => ?_⟩⟩⟩
  · have e : (((1 + c4).toNat : Nat) : Int) = 1 + c4 := by omega
    rw [e]; rfl
  obtain ⟨sz, rfl⟩ := Int.eq_ofNat_of_zero_le a5
  have tgp : tg ≠ p := (Drew.refl r5.pot).neq ztg
  refine ⟨p, tg, ts, sz, false, rfl, r6'.pot, tgp, r6'.at tgp htg, by omega, by omega, hts, by omega, fun D ys vss H7 zD7 md => ?_⟩
  have r16 := (r5.trans r6).trans r6'
  have r17 := r16.trans md.dr
  have zD : H1 D = none := fresh_drew r16 pot zD7
  have e7 : Ex Ht H7 := r17.old e1 zp
  have hlv := md.len
  have sv : ∀ us ∈ vss, StepV us := fun us h => (md.ok us h).1
  -- the frame
  refine q_asgAny ⟨.ref D, rfl, fun x dx zx zdx nex => ?_⟩
  have eN : Ex H7 (upd (upd H7 dx (.own x)) x (.ins C dx [])) := fun c o h => by
    rw [upd_ne (ne_of_none h zx), upd_ne (ne_of_none h zdx)]
    exact h
  have stN := md.st.tps (Ex.tps eN)
  refine ⟨x, dx, .ref D, .list (stepsD vss), rfl, upd_same, .lst (eN _ _ md.hD) (stN.dt fun us h => stepV_flat (sv us h)), ?_, fun vss' A H8 ed hV' l30 _ fr zS zM zV b8 => ⟨rfl, ?_⟩, fun j hj => ?_⟩
  · rw [sm, sm_steps sv, Bool.and_true]
    unfold stepsD
    exact decide_eq_true (by rw [List.length_map]; omega)
  · have ev : vss = vss' := stepsD_inj sv hV' (PyData.list.inj ed)
    subst ev
    have x7 : ∀ {c : Addr}, (upd (upd H7 dx (.own x)) x (.ins C dx [])) c = none → H7 c = none := fun {c} h => fresh_back eN h
    have old8 : ∀ {c : Addr} {o : HO}, H7 c = some o → H8 c = some o := fun {c o} h => b8 _ _ (fun z => ne_of_none h zx (List.mem_singleton.mp z)) (eN _ _ h)
    obtain ⟨po1, po2, po3, po4⟩ := r17.pot
    have pneq : ∀ {c : Addr}, H7 c = none → p ≠ c := fun h e => by rw [← e, po3] at h; cases h
    have cc : LoopC3 Ht p x D A vss := {
      n0 := zp
      nx := fresh_back e7 zx
      nM := fresh_back e7 (x7 zM)
      nV := fresh_back e7 (x7 zV)
      DV := fun e => by have z := md.hD; rw [e, x7 zV] at z; cases z
      pV := pneq (x7 zV)
      pS := pneq (x7 zS)
      pD := (r16.neq zD7).symm
      len := by omega
      ok := md.ok
      bf := fun j us h => by rw [hlv]; exact md.bf j us h }
    have l8 : Loop3 C Ht H8 p x D A vss ys 0 .zero 0 := by
      refine ⟨fun c o h => old8 (e7 _ _ h), ⟨po1, po2, old8 po3, po4⟩, fr, old8 md.hD, md.st.tps fun c zs z => old8 z, Nat.zero_le _, Nat.le_refl _, ?_⟩
      exact ⟨Nat.zero_le _, Nat.zero_le _, Nat.zero_le _, Nat.zero_le _⟩
    -- while
    refine q_cut (M := fun σ H' => ∃ y5 m n, σ = [some (.ref a), some (.int (i : Int)), some (.ref p), some (.ref D), some (.ref x), y5] ∧ Loop3 C Ht H' p x D A vss ys vss.length m n) ?_ ?_
    · refine s_while (fun k σ H' => ∃ y5 pos m n, σ = [some (.ref a), some (.int (i : Int)), some (.ref p), some (.ref D), some (.ref x), y5] ∧ Loop3 C Ht H' p x D A vss ys pos m n ∧ pos + k = vss.length) vss.length ⟨y5, 0, .zero, 0, rfl, l8, by omega⟩ ?_
      rintro k σ H12 ⟨y5, pos, m, n, rfl, l, hk'⟩
      have few0 := (l.few cc).1
      refine ⟨!decide (pos = vss.length), et_not (et_B fun H1 e1 Q q => ⟨.ref x, rfl, x, A.dx, _, rfl, (l.fr.ex e1).ob, by rfl, x, A, vss, pos, m, n, rfl, l.fr.ex e1, ⟨by omega, by omega⟩, fun H2 e2 => q H2 e2⟩), fun hb H13 e13 => ?_, fun hb H13 e13 => ?_⟩
      · have hlt : pos < vss.length := by
          have h1 := l.le
          have h2 : ¬ pos = vss.length := by rw [Bool.not_eq_true'] at hb; exact of_decide_eq_false hb
          omega
        have l13 := l.grow e13
        have hus := List.getElem?_eq_getElem hlt
        obtain ⟨sv1, hints⟩ := cc.ok _ (List.getElem_mem hlt)
        obtain ⟨gl, g1'⟩ := goes_le (m := m) cc hus
        have hle := l.le
        refine ⟨fun σ H' => ∃ y5 m' n', σ = [some (.ref a), some (.int (i : Int)), some (.ref p), some (.ref D), some (.ref x), y5] ∧ Loop3 C Ht H' p x D A vss ys (pos + goes vss[pos] m) m' n', fun σ2 H2 ⟨y5, m', n', e1, l2⟩ => ⟨vss.length - (pos + goes vss[pos] m), by omega, y5, _, m', n', e1, l2, by omega⟩, ?_⟩
        refine q_asgAny ⟨.ref x, rfl, x, A.dx, _, rfl, l13.fr.ob, by rfl, x, A, vss, pos, m, n, rfl, l13.fr, ⟨by omega, by omega⟩, hle, fun v2 H14 e14 hv2 => ?_⟩
        obtain ⟨t, rfl, hT⟩ : ∃ t, v2 = .ref t ∧ H14 t = some (.tup vss[pos]) := by
          rcases hv2 with ⟨_, z⟩ | ⟨t, us, rfl, h6, hT⟩
          · omega
          · rw [hus] at h6
            cases h6
            exact ⟨t, rfl, hT⟩
        have l14 := l13.grow e14
        refine ⟨.ref p, rfl, .ref x, rfl, .ref t, rfl, p, x, .ref t, A, vss, pos, m, n, rfl, l14.pot, l14.apart cc, l14.fr, few0, hle, cc.ok, (l14.few cc).2, .inr ⟨t, _, rfl, hT, sv1, hus⟩, fun H15 r15 => ⟨true, rfl, ?_⟩⟩
        refine iteF ?_
        have l15 := l14.drew cc r15
        have hT15 : H15 t = some (.tup vss[pos]) := r15.tps l14.pot _ _ hT
        have hnp := l.np
        have ix : ∀ {H' : Hp} {v : V}, Ex H15 H' → vss[pos][0]? = some v → Ev (tOp (rIxT K) (tVar 5) (tC (.int 0))) [some (.ref a), some (.int (i : Int)), some (.ref p), some (.ref D), some (.ref x), some (.ref t)] H' v := fun e h => ev_op (ev_var rfl) ev_c (rv_ixT (st_of (e _ _ hT15)) (atI_nat (j := 0) h))
        have t1 : ∀ {z : Str}, vss[pos][0]? = some (.str z) → EvT (tTest (tOp (rIn K false) (tOp (rIxT K) (tVar 5) (tC (.int 0))) (tTup (tCons (tC (.str "set")) (tCons (tC (.str "add")) (tCons (tC (.str "skip")) tNil)))))) [some (.ref a), some (.int (i : Int)), some (.ref p), some (.ref D), some (.ref x), some (.ref t)] H15 (inV (.str z) [.str "set", .str "add", .str "skip"]) :=
          fun h => et_test (ev_inU (ix (Ex.refl _) h) (eu_tup (ea_cons ev_c (ea_cons ev_c (ea_cons ev_c ea_nil))) (by show 3 ≤ 100000; decide)) rfl rfl)
        rcases plain_or sv1 with pl | ov
        · obtain ⟨z, hz, iz⟩ := nm_plain pl
          refine s_if (b := true) (et_is (t1 hz) iz) (fun _ H16 e16 => ?_) (fun z => nomatch z)
          have l16 := l15.grow e16
          refine ⟨.ref x, rfl, x, A.dx, _, rfl, l16.fr.ob, by rfl, x, A, vss, pos, m, n, rfl, l16.fr, few0, hle, sv, fun us' H17 hus' _ fr17 b17 => ?_, fun hb' => ?_⟩
          · rw [hus] at hus'
            cases hus'
            obtain ⟨ex17, pt17, hD17, st17⟩ := l16.frame cc b17
            refine ⟨_, memoA vss[pos] 1 m, _, rfl, ex17, pt17, ?_, hD17, st17, gl, by omega, bound_memoA sv1 hints (by decide) l.bd⟩
            rw [memoA_plain pl]
            exact fr17
          · unfold nextD at hb'
            rw [hus] at hb'
            have z := plain_isPlain pl
            rw [hb'] at z
            cases z
        · obtain ⟨z, hz, iz, iz2⟩ := nm_other ov
          refine s_if (b := false) (et_is (t1 hz) iz) (fun z => nomatch z) (fun _ H16 e16 => ?_)
          have l16 := l15.grow e16
          refine ⟨.ref x, rfl, x, A.dx, _, rfl, l16.fr.ob, by rfl, ?_⟩
          have go : ∀ {H17 : Hp} {v : V} {dv : PyData} {QN : VK}, Ex H16 H17 → Dt H17 v dv → sm dv = true → rightV vss[pos] dv = true → memoO vss[pos] (intOf dv) m = memoO vss[pos] 1 m → (∀ H18, (∃ y5 m' n', ([some (.ref a), some (.int (i : Int)), some (.ref p), some (.ref D), some (.ref x), some (.ref t)] : List (Option V)) = [some (.ref a), some (.int (i : Int)), some (.ref p), some (.ref D), some (.ref x), y5] ∧ Loop3 C Ht H18 p x D A vss ys (pos + goes vss[pos] m) m' n') → QN .non H18) → spPass C CW CN [.ref x, v] H17 QN E0 := fun {H17 v dv QN} e17 hv hs hr' hmo kq => by
            have l17 := l16.grow e17
            refine ⟨x, v, dv, A, vss, pos, m, n, rfl, hv, hs, l17.fr, few0, hle, sv, fun us' H18 hus' _ _ fr18 b18 => kq H18 ?_, fun hw => ?_, fun us' H18 hus' _ hf _ => ?_⟩
            · rw [hus] at hus'
              cases hus'
              obtain ⟨ex18, pt18, hD18, st18⟩ := l17.frame cc b18
              refine ⟨_, memoA vss[pos] 1 m, _, rfl, ex18, pt18, ?_, hD18, st18, gl, by omega, bound_memoA sv1 hints (by decide) l.bd⟩
              rw [memoA_other ov, goes_other ov, ← hmo]
              exact fr18
            · rcases hw with hw | hw
              · rw [hus] at hw; cases hw
              · unfold nextD at hw
                rw [hus] at hw
                have z := other_notPlain ov
                rw [hw] at z
                cases z
            · rw [hus] at hus'
              cases hus'
              rw [hf] at hr'
              cases hr'
          have tst : EvT (tTest (tOp (rIn K false) (tOp (rIxT K) (tVar 5) (tC (.int 0))) (tTup (tCons (tC (.str "read")) (tCons (tC (.str "try")) tNil))))) [some (.ref a), some (.int (i : Int)), some (.ref p), some (.ref D), some (.ref x), some (.ref t)] H16 (givenX vss[pos]).isSome :=
            et_is (et_test (ev_inU (ix e16 hz) (eu_tup (ea_cons ev_c (ea_cons ev_c ea_nil)) (by show 2 ≤ 100000; decide)) rfl rfl)) iz2
          cases hg : givenX vss[pos] with
          | some y =>
            rw [hg] at tst
            refine ev_if (v := .int 1) (b := true) tst (fun _ => ev_c) (fun z => nomatch z) H16 (Ex.refl H16) _ fun H17 e17 => ⟨rfl, go (dv := .int 1) e17 (.int 1) rfl ?_ rfl fun H18 h => h⟩
            unfold rightV
            rw [hg]
            rfl
          | none =>
            rw [hg] at tst
            refine ev_if (v := .non) (b := false) tst (fun z => nomatch z) (fun _ => ev_c) H16 (Ex.refl H16) _ fun H17 e17 => ⟨rfl, go (dv := .none) e17 .non rfl ?_ (memoO_none hg) fun H18 h => h⟩
            unfold rightV
            rw [hg]
            rfl
      · have e : pos = vss.length := by rw [Bool.not_eq_false'] at hb; exact of_decide_eq_true hb
        subst e
        exact ⟨y5, m, n, rfl, l.grow e13⟩
    rintro σ H20 ⟨y5, m, n, rfl, l20⟩
    -- at the end
    have hnone : vss[vss.length]? = none := List.getElem?_eq_none (Nat.le_refl _)
    refine ⟨.ref p, rfl, .ref x, rfl, p, x, .non, A, vss, vss.length, m, n, rfl, l20.pot, l20.apart cc, l20.fr, (l20.few cc).1, Nat.le_refl _, cc.ok, (l20.few cc).2, .inl ⟨rfl, hnone⟩, fun H21 r21 => ⟨true, rfl, ?_⟩⟩
    refine iteF ?_
    have l21 := l20.drew cc r21
    refine ⟨.ref p, rfl, .ref D, rfl, p, D, ys, vss, rfl, l21.pot, cc.pD.symm, l21.hD, l21.st, cc.len, sv, cc.bf, fun H22 r22 => ⟨true, rfl, ?_⟩⟩
    refine iteF ?_
    have l22 := l21.drew cc r22
    exact ⟨⟨_, _, _, _, _, rfl⟩, et.trans l22.ex⟩
  · rw [due_good (by unfold stepsD; rw [List.length_map]; omega) fun j' y hy => ?_] at hj
    · cases hj
    · unfold stepsD at hy ⊢
      rw [List.getElem?_map] at hy
      cases hv : vss[j']? with
      | none => rw [hv] at hy; cases hy
      | some us =>
        rw [hv] at hy
        cases hy
        rw [List.length_map, hlv]
        exact md.bf j' us hv
end
end Cr
namespace Cr
open PySem PySem.Spec PyProof.Rows L2 Evl
/-- a method with value by its name alone, None where it lacks -/
def MethKw (K : PySem.W.Frag) (C : Addr) (m qual : Str) (st : Stmt) : Prop := ∃ (f D : Addr) (od an : Option Addr) (sl : Array (Option Value)) (oc dc pm cd ct : Value),
  PySem.W.findIn K (.ref C) m = some (some (.ref f)) ∧ PySem.W.isFn K (.ref f) = true ∧ K.lookup f = some ⟨oc, od, .func (PySem.W.fnOf m qual (defArgs st) (defBody st) (defScope st) .none (.ref D) dc pm an cd ct), sl⟩ ∧ PySem.W.codeIn K cd qual = true ∧ PySem.W.keepIn K (.ref f) = true ∧ PySem.W.nsIn K D "value" = some (some .none)
theorem methKw {K : PySem.W.Frag} {C : Addr} {m qual : Str} {st : Stmt} {f D : Addr} {od an : Option Addr} {sl : Array (Option Value)} {oc dc pm cd ct : Value} (a : PySem.W.findIn K (.ref C) m = some (some (.ref f))) (i : PySem.W.isFn K (.ref f) = true)
    (l : K.lookup f = some ⟨oc, od, .func (PySem.W.fnOf m qual (defArgs st) (defBody st) (defScope st) .none (.ref D) dc pm an cd ct), sl⟩) (c : PySem.W.codeIn K cd qual = true) (k : PySem.W.keepIn K (.ref f) = true) (n : PySem.W.nsIn K D "value" = some (some .none)) : MethKw K C m qual st :=
  ⟨f, D, od, an, sl, oc, dc, pm, cd, ct, a, i, l, c, k, n⟩
theorem all_mk {P : Program} {w : World} {K : PySem.W.Frag} {h : Heap} {mg : Str → Option Value} {fa aV aP dS CE CW CF CN CL CT CS CD : Addr} {tL tM : Tok} {n : Nat} (X : K.In h) (G : h.Ns mainGlobals mg) (hfa : mg "law" = some (.ref fa)) (B : Blt mg)
    (v1 : PySem.W.nsIn K mainGlobals "VARIABLES" = some (some (.ref aV))) (v2 : KTup K aV (vars4.map V.str)) (v3 : PySem.W.nsIn K mainGlobals "LONGEST_NAME" = some (some (.int 8 tL))) (v4 : PySem.W.nsIn K mainGlobals "MOST_STEPS" = some (some (.int 30 tM)))
    (v5 : PySem.W.nsIn K mainGlobals "PLAIN_STEPS" = some (some (.ref aP))) (v7 : KTup K aP (plain3.map V.str)) (v6 : PySem.W.nsIn K mainGlobals "SHAPES" = some (some (.ref dS))) (S' : ∃ es, Shapes K w dS es n)
    (c0 : PySem.W.nsIn K mainGlobals "InvalidProgram" = some (some (.ref CE))) (e0 : ErrK P K CE xbV "InvalidProgram.__init__" "position" sInitP)
    (c1 : PySem.W.nsIn K mainGlobals "WrongStep" = some (some (.ref CW))) (e1 : ErrK P K CW xbR "WrongStep.__init__" "position" sInitW)
    (cN : PySem.W.nsIn K mainGlobals "InvalidNumber" = some (some (.ref CN))) (eN : PySem.W.excIn K CN [.type "ValueError", .type "Exception", .type "BaseException", .type "object"] "ValueError.__new__" = true) (eK : PySem.W.keepIn K (.ref CN) = true) (eB : PySem.W.subIn K (.ref CN) (.type "BaseException") = some true) (eT : PySem.W.typeIn K (.ref CN) = some (.type "type"))
    (cLo : PySem.W.nsIn K mainGlobals "LoaderError" = some (some (.ref CL))) (cTx : PySem.W.nsIn K mainGlobals "InvalidText" = some (some (.ref CT))) (cWs : PySem.W.nsIn K mainGlobals "WrongState" = some (some (.ref CS))) (cNn : PySem.W.nsIn K mainGlobals "NoNeed" = some (some (.ref CD)))
    (xcW : ExcC K CW) (xcP : ExcC K CE) (xcN : ExcC K CN) (xfW : XfC K CW) (xfP : XfC K CE)
    (i1 : PySem.W.kitOne K (.ref CW) (.ref CW) = some true) (i2 : PySem.W.kitOne K (.ref CW) (.type "RuntimeError") = some true) (i3 : PySem.W.kitOne K (.ref CW) (.ref CL) = some false) (i4 : PySem.W.kitOne K (.ref CW) (.ref CS) = some false)
    (i5 : PySem.W.kitOne K (.ref CE) (.ref CW) = some false) (i6 : PySem.W.kitOne K (.ref CE) (.ref CE) = some true) (i7 : PySem.W.kitOne K (.ref CE) (.ref CL) = some true) (i8 : PySem.W.kitOne K (.ref CE) (.ref CN) = some false) (i9 : PySem.W.kitOne K (.ref CE) (.ref CT) = some false)
    (i10 : PySem.W.kitOne K (.ref CN) (.ref CW) = some false) (i11 : PySem.W.kitOne K (.ref CN) (.ref CE) = some false) (i12 : PySem.W.kitOne K (.ref CN) (.ref CL) = some true) (i13 : PySem.W.kitOne K (.ref CN) (.ref CT) = some false) (i14 : PySem.W.kitOne K (.ref CN) (.ref CD) = some false)
    (m1 : PySem.W.exmOne K (.ref CW) (.ref CW) = some true) (m2 : PySem.W.exmOne K (.ref CW) (.ref CN) = some false) (m3 : PySem.W.exmOne K (.ref CN) (.ref CN) = some true) (m4 : PySem.W.exmOne K (.ref CN) (.ref CW) = some false) (m5 : PySem.W.exmOne K (.ref CE) (.ref CE) = some true)
    (cF : PySem.W.nsIn K mainGlobals "Frame" = some (some (.ref CF))) (kF : Cls K CF) (mF : PySem.W.makesIn K CF = true) (pF : PySem.W.keepIn K (.ref CF) = true) (nS : NoAttr K CF "steps") (nP : NoAttr K CF "position") (nM : NoAttr K CF "memory") (nV : NoAttr K CF "visited")
    (dInt : DefAt K "is_integer" sIsInteger) (dName : DefAt K "is_name" sIsName) (dVar : DefAt K "is_variable" sIsVariable) (dBW : DefAt K "bare_word" sBareW) (dSM : DefAt K "step_modules" sSM) (dItem : DefAt K "is_item" sIsItem) (dBI : DefAt K "bare_item" sBareI) (dStep : DefAt K "is_step" sIsStep)
    (dBP : DefAt K "bare_program" sBareP) (dPlain : DefAt K "is_plain" sIsPlain) (dBef : DefAt K "is_step_before" sBefore) (dChk : DefAt K "check_steps" sSteps) (dC : DefKw K "check_program" sCheck)
    (mI : MethAt K CF "__init__" "Frame.__init__" sFInit) (mL : MethAt K CF "__len__" "Frame.__len__" sFLen) (mN : MethAt K CF "next_step" "Frame.next_step" sFNext) (mX : MethAt K CF "next_index" "Frame.next_index" sFIndex) (mV : MethAt K CF "variables" "Frame.variables" sFVars) (mO : MethAt K CF "is_over" "Frame.is_over" sFOver)
    (mMv : MethAt K CF "move" "Frame.move" sFMove) (mR : MethAt K CF "run_plain" "Frame.run_plain" sFRun) (mP : MethKw K CF "pass_step" "Frame.pass_step" sFPass) (dGv : DefAt K "given_variable" sGiven)
    (dPot : DefAt K "_law_pot" sPot) (dDraw : DefAt K "_law_draw" sDraw) (dPick : DefAt K "_law_pick" sChoice) (dNa : DefAt K "_law_name" sName) (dNs : DefAt K "_law_names" sNames) (dSt : DefAt K "_law_step" sStep) (dPr : DefAt K "_law_program" sProg) (dKi : DefAt K "_law_kind" sKind) (dTo : DefAt K "_law_told" sTold) (dDu : DefAt K "_law_due" sDue) (dSh : DefAt K "_law_shown" sShown) (dTr : DefAt K "_law_tried" sTried) (dRe : DefAt K "_law_refused" sRefd) (dSp : DefAt K "_law_spoilt_right" sSpoR) (dLaw : DefAt K "law" sLaw) :
    ∃ fd : FuncData, (∀ (s : Shared) (v : Value), BindsTo s fd ⟨[v], []⟩ [("_law_script", v)]) ∧ ∀ base : Heap, K.In base → base.Ns mainGlobals mg → FnG P w K mg base CX0 13 fa fd ["_law_script"] (spLaw K) := by
  obtain ⟨es, S⟩ := S'
  have gV := PySem.W.mg_of X G v1
  have gL := PySem.W.mg_of X G v3
  have gM := PySem.W.mg_of X G v4
  have gP := PySem.W.mg_of X G v5
  have gS := PySem.W.mg_of X G v6
  have T : FrC K mg CF := ⟨kF, nS, nP, nM, nV, PySem.W.mg_of X G cF⟩
  obtain ⟨fL, od, an, sl, oc, kV, dc, pm, cd, ct, aL, lL, cL, kL⟩ := dLaw
  have el := hfa.symm.trans (PySem.W.mg_of X G aL)
  cases el
  have FL := fun_mk (st := sLaw) lL cL kL
  refine ⟨PySem.W.fnOf "law" "law" (defArgs sLaw) (defBody sLaw) (defScope sLaw) .none kV dc pm an cd ct, fun s v => .of_eq rfl, fun base _ _ => ?_⟩
  obtain ⟨fE, fdE, EP⟩ := errAt_of (mg := mg) X G c0 e0
  obtain ⟨fW, fdW, EW⟩ := errAt_of (mg := mg) X G c1 e1
  have MP : MkNum P w K mg base CE "InvalidProgram" "position" "position" := mkP EP B
  have MW : MkNum P w K mg base CW "WrongStep" "position" "position" := mkW EW B
  have Nc : NumC K mg CN := ⟨PySem.W.mg_of X G cN, eN, eK, eB, eT⟩
  -- the program's defs
  have hInt : HasO P w K mg base 1 "is_integer" ["value"] (spD isInteger) := hasO_mk X G dInt (fun _ _ _ _ _ _ us hl => match us, hl with | [_], _ => rfl) fun f fd F => ok_isInteger F B
  have hName : HasO P w K mg base 1 "is_name" ["value"] (spD isName) := hasO_mk X G dName (fun _ _ _ _ _ _ us hl => match us, hl with | [_], _ => rfl) fun f fd F => ok_isName F B gL
  have hVar : HasO P w K mg base 1 "is_variable" ["value"] (spD isVar) := hasO_mk X G dVar (fun _ _ _ _ _ _ us hl => match us, hl with | [_], _ => rfl) fun f fd F => ok_isVar F B gV v2
  have hBW : HasO P w K mg base 1 "bare_word" ["word"] spBareW := hasO_mk X G dBW (fun _ _ _ _ _ _ us hl => match us, hl with | [_], _ => rfl) fun f fd F => ok_bareW F
  have hSM : HasO P w K mg base 1 "step_modules" ["step"] spSM := hasO_mk X G dSM (fun _ _ _ _ _ _ us hl => match us, hl with | [_], _ => rfl) fun f fd F => ok_sm F B gS S
  have hItem : HasO P w K mg base 2 "is_item" ["value", "kind"] spItem := hasO_mk X G dItem (fun _ _ _ _ _ _ us hl => match us, hl with | [_, _], _ => rfl) fun f fd F => by
    obtain ⟨f1, g1, G1, b1, k1, m1⟩ := hInt.ex
    obtain ⟨f2, g2, G2, b2, k2, m2⟩ := hVar.ex
    obtain ⟨f3, g3, G3, b3, k3, m3⟩ := hName.ex
    exact ok_isItem F G1 b1 k1 m1 G2 b2 k2 m2 G3 b3 k3 m3
  have hBI : HasO P w K mg base 2 "bare_item" ["item"] spBareI := hasO_mk X G dBI (fun _ _ _ _ _ _ us hl => match us, hl with | [_], _ => rfl) fun f fd F => ok_bareI F B hBW
  have hStep : HasO P w K mg base 3 "is_step" ["value"] (spD isStep) := hasO_mk X G dStep (fun _ _ _ _ _ _ us hl => match us, hl with | [_], _ => rfl) fun f fd F => by
    obtain ⟨f1, g1, G1, b1, k1, m1⟩ := hItem.ex
    exact ok_isStep F B gS S G1 b1 k1 m1
  have hBP : HasO P w K mg base 3 "bare_program" ["program"] spBareP := hasO_mk X G dBP (fun _ _ _ _ _ _ us hl => match us, hl with | [_], _ => rfl) fun f fd F => ok_bareP F B hBI
  have hPlain : HasO P w K mg base 4 "is_plain" ["step"] (spD isPlain) := hasO_mk X G dPlain (fun _ _ _ _ _ _ us hl => match us, hl with | [_], _ => rfl) fun f fd F => by
    obtain ⟨f1, g1, G1, b1, k1, m1⟩ := hStep.ex
    exact ok_isPlain F gP v7 G1 b1 k1 m1
  have hBef : HasO P w K mg base 4 "is_step_before" ["value", "steps_after", "modules"] spBefore := hasO_mk X G dBef (fun _ _ _ _ _ _ us hl => match us, hl with | [_, _, _], _ => rfl) fun f fd F => ok_before F B hStep (hSM.up (by decide))
  have hChk : HasE P w K mg base 5 "check_steps" ["value", "is_main", "modules"] (spSteps CE) := hasE_mk X G dChk (fun _ _ _ _ _ _ us hl => match us, hl with | [_, _, _], _ => rfl) fun f fd F => ok_steps F B MP (by decide) gM hBef
  have hCk : HasC P w K mg base 6 CE := by
    obtain ⟨f', D', od', an', sl', oc', dc', pm', cd', ct', a', l', c', kp', m'⟩ := dC
    have F' := fun_mk (st := sCheck) l' c' kp'
    have FD : FunD K "check_program" "check_program" (defArgs sCheck) (defBody sCheck) (defScope sCheck) [] [("is_main", .bl false)] f' _ := ⟨⟨oc', od', .none, .ref D', dc', pm', an', cd', ct', sl', rfl, l', c', .inl ⟨rfl, rfl⟩, .inr ⟨D', rfl, fun q hq => by
      rw [List.mem_singleton.mp hq]
      exact ⟨_, m', rfl⟩⟩⟩, kp'⟩
    obtain ⟨ds, vd, bd⟩ := FD.binds0 (ps := ["value", "is_main"]) 1 (by decide) rfl (fun D doc pm an cdv ct us ks hu hk => by
      match us, ks, hu, hk with
      | [u], [k1], _, _ => exact ⟨_, _, _, _, _, _, rfl, rfl, rfl⟩)
    obtain ⟨mv, kb⟩ := FD.kbinds0 (ps := ["value", "is_main"]) 1 ["is_main"] [] (fun vs _ zs => vs ++ zs) (by decide) (fun q hq => nomatch hq) (fun r1 _ r3 => r1.append r3) (fun D doc pm an cdv ct us mv ws hu hm hw => by
      match us, mv, ws, hu, hm, hw with
      | [u], [], [w1], _, _, _ => rfl)
    exact ⟨⟨f', _, ok_check F' hChk, ⟨ds, vd, bd⟩, ⟨_, kb⟩, kp', PySem.W.mg_of X G a'⟩⟩
  -- the methods
  have hO : HasM P w K mg base CX0 1 CF "is_over" ["self"] (spLook CF fun vss pos _ _ => .bl (decide (pos = vss.length))) := hasM_mk mO (fun _ _ _ _ _ _ us hl => match us, hl with | [_], _ => rfl) fun f fd F => ok_over F B T
  have hX : HasM P w K mg base CX0 1 CF "next_index" ["self"] (spLook CF fun _ pos _ _ => .int (pos : Int)) := hasM_mk mX (fun _ _ _ _ _ _ us hl => match us, hl with | [_], _ => rfl) fun f fd F => ok_index F T
  have hN : HasM P w K mg base CX0 2 CF "next_step" ["self"] (spNext CF) := hasM_mk mN (fun _ _ _ _ _ _ us hl => match us, hl with | [_], _ => rfl) fun f fd F => ok_next F T hO
  have hV : HasM P w K mg base CX0 1 CF "variables" ["self"] (spVars CF) := hasM_mk mV (fun _ _ _ _ _ _ us hl => match us, hl with | [_], _ => rfl) fun f fd F => ok_vars F B T
  have hMv : HasM P w K mg base CX0 1 CF "move" ["self", "length"] (spMove CF) := hasM_mk mMv (fun _ _ _ _ _ _ us hl => match us, hl with | [_, _], _ => rfl) fun f fd F => ok_move F T
  have hR : HasM P w K mg base (L2.CX P w) 5 CF "run_plain" ["self"] (spRun CF CW) := hasM_mk mR (fun _ _ _ _ _ _ us hl => match us, hl with | [_], _ => rfl) fun f fd F => ok_run F T MW (by decide) (hN.up (by decide)) hPlain (hMv.up (by decide))
  have hGv : HasO P w K mg base 1 "given_variable" ["step"] spGiven := hasO_mk X G dGv (fun _ _ _ _ _ _ us hl => match us, hl with | [_], _ => rfl) fun f fd F => ok_given F
  have hPs : HasPass P w K mg base 5 CF CW CN := by
    obtain ⟨f', D', od', an', sl', oc', dc', pm', cd', ct', a', i', l', c', kp', m'⟩ := mP
    have F' := fun_mk (st := sFPass) l' c' kp'
    have FD : FunD K "pass_step" "Frame.pass_step" (defArgs sFPass) (defBody sFPass) (defScope sFPass) [] [("value", .non)] f' _ := ⟨⟨oc', od', .none, .ref D', dc', pm', an', cd', ct', sl', rfl, l', c', .inl ⟨rfl, rfl⟩, .inr ⟨D', rfl, fun q hq => by
      rw [List.mem_singleton.mp hq]
      exact ⟨_, m', rfl⟩⟩⟩, kp'⟩
    obtain ⟨ds, vd, bd⟩ := FD.binds0 (ps := ["self", "value"]) 1 (by decide) rfl (fun D doc pm an cdv ct us ks hu hk => by
      match us, ks, hu, hk with
      | [u], [k1], _, _ => exact ⟨_, _, _, _, _, _, rfl, rfl, rfl⟩)
    obtain ⟨mv, kb⟩ := FD.kbinds0 (ps := ["self", "value"]) 1 ["value"] [] (fun vs _ zs => vs ++ zs) (by decide) (fun q hq => nomatch hq) (fun r1 _ r3 => r1.append r3) (fun D doc pm an cdv ct us mv ws hu hm hw => by
      match us, mv, ws, hu, hm, hw with
      | [u], [], [w1], _, _, _ => rfl)
    exact ⟨⟨f', _, ok_pass F' B T MW Nc (by decide) (hN.up (by decide)) hPlain (hMv.up (by decide)) (hGv.up (by decide)) (hInt.up (by decide)), ⟨ds, vd, bd⟩, ⟨_, kb⟩, a', i', kp'⟩⟩
  have hLen : HasLen P w K mg base 2 CF (spLook CF fun _ _ _ n => .int (n : Int)) := by
    obtain ⟨f, od, an, sl, oc, kV, dc, pm, cd, ct, a, i, l, c, kp, t⟩ := mL
    have F := fun_mk (st := sFLen) l c kp
    exact ⟨⟨f, _, fnUp (ok_flen F B T) (by decide : 1 ≤ 2), F.binds (fun _ _ _ _ _ _ us hl => match us, hl with | [_], _ => rfl), a, t⟩⟩
  have hMk : MkF P w K mg base 7 CF CE := by
    obtain ⟨f, od, an, sl, oc, kV, dc, pm, cd, ct, a, i, l, c, kp, t⟩ := mI
    have F := fun_mk (st := sFInit) l c kp
    exact ⟨⟨f, _, ⟨mF, a, i, pF⟩, ok_finit F B T gV v2 hCk (hBP.up (by decide)), F.binds (fun _ _ _ _ _ _ us hl => match us, hl with | [_, _], _ => rfl)⟩⟩
  -- the law's defs
  have lPot : Has P w K mg base 1 "_law_pot" ["_law_script", "_law_index"] (spPot K) := has_mk X G dPot (fun _ _ _ _ _ _ us hl => match us, hl with | [_, _], _ => rfl) fun f fd F => ok_pot F B
  have lDraw : Has P w K mg base 1 "_law_draw" ["_law_pot_here", "_law_bound"] spDraw := has_mk X G dDraw (fun _ _ _ _ _ _ us hl => match us, hl with | [_, _], _ => rfl) fun f fd F => ok_draw F B
  have lPick : Has P w K mg base 2 "_law_pick" ["_law_pot_here", "_law_options"] spChoice := has_mk X G dPick (fun _ _ _ _ _ _ us hl => match us, hl with | [_, _], _ => rfl) fun f fd F => ok_choice F B lDraw
  have lNa : Has P w K mg base 2 "_law_name" ["_law_pot_here", "_law_used"] spName := has_mk X G dNa (fun _ _ _ _ _ _ us hl => match us, hl with | [_, _], _ => rfl) fun f fd F => ok_name F B lDraw
  have lNs : Has P w K mg base 3 "_law_names" ["_law_pot_here", "_law_many"] spNames := has_mk X G dNs (fun _ _ _ _ _ _ us hl => match us, hl with | [_, _], _ => rfl) fun f fd F => ok_names F B lNa
  have lSt : Has P w K mg base 3 "_law_step" ["_law_pot_here", "_law_targets", "_law_after", "_law_is_top"] spStepF := has_mk X G dSt (fun _ _ _ _ _ _ us hl => match us, hl with | [_, _, _, _], _ => rfl) fun f fd F => ok_step F B (lDraw.up (by decide)) lPick
  have lPr : Has P w K mg base 4 "_law_program" ["_law_pot_here", "_law_targets", "_law_size", "_law_is_top"] spProgF := has_mk X G dPr (fun _ _ _ _ _ _ us hl => match us, hl with | [_, _, _, _], _ => rfl) fun f fd F => ok_prog F B lSt
  have N : Kinds K mg CW CE CN CL CT CS CD := ⟨PySem.W.mg_of X G c1, PySem.W.mg_of X G c0, PySem.W.mg_of X G cN, PySem.W.mg_of X G cLo, PySem.W.mg_of X G cTx, PySem.W.mg_of X G cWs, PySem.W.mg_of X G cNn, xcW, xcP, xcN, xfW, xfP, EW.no, EP.no, i1, i2, i3, i4, i5, i6, i7, i8, i9, i10, i11, i12, i13, i14, m1, m2, m3, m4, m5⟩
  have lKi : ∀ k, HasK P w K mg base (k + 1) CW CE CN := fun k => by
    obtain ⟨f', od', an', sl', oc', kV', dc', pm', cd', ct', a', l', c', kp'⟩ := dKi
    have F' := fun_mk (st := sKind) l' c' kp'
    exact ⟨⟨f', _, ok_kind F' B N, F'.binds (fun _ _ _ _ _ _ us hl => match us, hl with | [_], _ => rfl), kp', PySem.W.mg_of X G a'⟩⟩
  have lTo : Has P w K mg base 6 "_law_told" ["_law_frame", "_law_is_plain_call", "_law_given"] (spTold CF) := has_mk X G dTo (fun _ _ _ _ _ _ us hl => match us, hl with | [_, _, _], _ => rfl) fun f fd F => ok_told F B T N hR hPs (lKi 4)
  have lDu : Has P w K mg base 1 "_law_due" ["_law_step_here", "_law_at", "_law_is_plain_call", "_law_given"] spDue := has_mk X G dDu (fun _ _ _ _ _ _ us hl => match us, hl with | [_, _, _, _], _ => rfl) fun f fd F => ok_due F B
  have lSh : Has P w K mg base 4 "_law_shown" ["_law_frame"] (spShown CF) := has_mk X G dSh (fun _ _ _ _ _ _ us hl => match us, hl with | [_], _ => rfl) fun f fd F => ok_shown F B T hN (hX.up (by decide)) (hV.up (by decide)) (hO.up (by decide)) hLen
  have lTr : Has P w K mg base 7 "_law_tried" ["_law_pot_here", "_law_frame", "_law_step_here"] (spTried CF) := has_mk X G dTr (fun _ _ _ _ _ _ us hl => match us, hl with | [_, _, _], _ => rfl) fun f fd F => ok_tried F B T (lDraw.up (by decide)) (lPick.up (by decide)) (lDu.up (by decide)) (lSh.up (by decide)) lTo (hX.up (by decide))
  have lRe : Has P w K mg base 9 "_law_refused" ["_law_thing"] spRefd := has_mk X G dRe (fun _ _ _ _ _ _ us hl => match us, hl with | [_], _ => rfl) fun f fd F => ok_refd F T N hMk (lKi 7)
  have hMk' : MkF P w K mg base 11 CF CE := by
    obtain ⟨f', fd', M', G', b'⟩ := hMk.ex
    exact ⟨⟨f', fd', M', fnUp G' (by decide), b'⟩⟩
  have hMk8 : MkF P w K mg base 8 CF CE := by
    obtain ⟨f', fd', M', G', b'⟩ := hMk.ex
    exact ⟨⟨f', fd', M', fnUp G' (by decide), b'⟩⟩
  have lSp : Has P w K mg base 10 "_law_spoilt_right" ["_law_pot_here", "_law_steps"] spSpoR := has_mk X G dSp (fun _ _ _ _ _ _ us hl => match us, hl with | [_, _], _ => rfl) fun f fd F => ok_spoR F B T (by decide) (lDraw.up (by decide)) (lPick.up (by decide)) lRe hMk8 (hN.up (by decide))
  have hPs' : HasPass P w K mg base 12 CF CW CN := by
    obtain ⟨f', fd', G', b1', b2', m'⟩ := hPs.ex
    exact ⟨⟨f', fd', fnUp G' (by decide), b1', b2', m'⟩⟩
  exact ok_law (k := 12) FL B T (by decide) (lPot.up (by decide)) (lDraw.up (by decide)) (lPr.up (by decide)) (lNs.up (by decide)) hMk' (lTr.up (by decide)) (lSp.up (by decide)) (hO.up (by decide)) (hN.up (by decide)) (hR.up (by decide)) hPs'
end Cr
open PySem PySem.W PyProof.Rows
set_option maxRecDepth 100000 in
set_option maxHeartbeats 0 in
theorem PySem.Challenge.cw_cycleready_k33_errors_of_frames_holds : PySem.Challenge.rw_cycleready_k33_errors_of_frames.Holds := by
  w_on; o_law; k_head; (case hw => w_witness2)
  k_fill
  refine Cr.walkG (l := PySem.Challenge.rw_cycleready_k33_errors_of_frames) (n := 63) (k := 13) (x := "_law_script") (sp := fun w => Cr.spLaw _) rfl (by decide) rfl ⟨rfl, by decide, by decide⟩ (fun w h Y => PySem.W.kIn_of Y) ?F (fun _ _ a ns hl _ hS => ⟨a, ns, rfl, hS, hl, fun _ => rfl⟩)
  case F =>
    intro w mg fa h KX G hmg
    have B : Cr.Blt mg := by
      constructor
      · exact PySem.W.mg_none_of KX G (by k_is)
      · exact PySem.W.mg_none_of KX G (by k_is)
      · exact PySem.W.mg_none_of KX G (by k_is)
      · exact PySem.W.mg_none_of KX G (by k_is)
      · exact PySem.W.mg_none_of KX G (by k_is)
      · exact PySem.W.mg_none_of KX G (by k_is)
      · exact PySem.W.mg_none_of KX G (by k_is)
      · exact PySem.W.mg_none_of KX G (by k_is)
      · exact PySem.W.mg_none_of KX G (by k_is)
      · exact PySem.W.mg_none_of KX G (by k_is)
      · exact PySem.W.mg_none_of KX G (by k_is)
      · exact PySem.W.mg_none_of KX G (by k_is)
      · exact PySem.W.mg_none_of KX G (by k_is)
      · exact PySem.W.mg_none_of KX G (by k_is)
      · exact PySem.W.mg_none_of KX G (by k_is)
      · exact PySem.W.mg_none_of KX G (by k_is)
      · exact PySem.W.mg_none_of KX G (by k_is)
      · exact PySem.W.mg_none_of KX G (by k_is)
      · exact PySem.W.mg_none_of KX G (by k_is)
      · exact PySem.W.mg_none_of KX G (by k_is)
      · exact PySem.W.mg_none_of KX G (by k_is)
    refine' Cr.all_mk (P := PySem.Challenge.pw_cycleready_k33_errors_of_frames) KX G hmg B ?p_v1 ?p_v2 ?p_v3 ?p_v4 ?p_v5 ?p_v7 ?p_v6 ?p_S' ?p_c0 ?p_e0 ?p_c1 ?p_e1 ?p_cN ?p_eN ?p_eK ?p_eB ?p_eT ?p_cLo ?p_cTx ?p_cWs ?p_cNn ?p_xcW ?p_xcP ?p_xcN ?p_xfW ?p_xfP ?p_i1 ?p_i2 ?p_i3 ?p_i4 ?p_i5 ?p_i6 ?p_i7 ?p_i8 ?p_i9 ?p_i10 ?p_i11 ?p_i12 ?p_i13 ?p_i14 ?p_m1 ?p_m2 ?p_m3 ?p_m4 ?p_m5 ?p_cF ?p_kF ?p_mF ?p_pF ?p_nS ?p_nP ?p_nM ?p_nV ?p_dInt ?p_dName ?p_dVar ?p_dBW ?p_dSM ?p_dItem ?p_dBI ?p_dStep ?p_dBP ?p_dPlain ?p_dBef ?p_dChk ?p_dC ?p_mI ?p_mL ?p_mN ?p_mX ?p_mV ?p_mO ?p_mMv ?p_mR ?p_mP ?p_dGv ?p_dPot ?p_dDraw ?p_dPick ?p_dNa ?p_dNs ?p_dSt ?p_dPr ?p_dKi ?p_dTo ?p_dDu ?p_dSh ?p_dTr ?p_dRe ?p_dSp ?p_dLaw
    (case p_v1 => k_is)
    (case p_v2 => refine' Cr.ktup4 ?l; (case l => k_is))
    (case p_v3 => k_is)
    (case p_v4 => k_is)
    (case p_v5 => k_is)
    (case p_v7 => refine' Cr.ktup3 ?l; (case l => k_is))
    (case p_v6 => k_is)
    (case p_S' => refine' Cr.shapes_mk ?l ?e1 ?e2 ?e3 ?e4 ?e5 ?e6 ?e7 ?e8 ?low ?k1 ?k2 ?k3 ?k4 ?k5 ?k6 ?k7 ?k8; (case l => k_is); (case e1 => first | rfl | k_is); (case e2 => first | rfl | k_is); (case e3 => first | rfl | k_is); (case e4 => first | rfl | k_is); (case e5 => first | rfl | k_is); (case e6 => first | rfl | k_is); (case e7 => first | rfl | k_is); (case e8 => first | rfl | k_is); (case low => first | rfl | decide | k_is); (case k1 => refine' Cr.ktup2 ?l; (case l => k_is)); (case k2 => refine' Cr.ktup2 ?l; (case l => k_is)); (case k3 => refine' Cr.ktup2 ?l; (case l => k_is)); (case k4 => refine' Cr.ktup2 ?l; (case l => k_is)); (case k5 => refine' Cr.ktup3 ?l; (case l => k_is)); (case k6 => refine' Cr.ktup1 ?l; (case l => k_is)); (case k7 => refine' Cr.ktup2 ?l; (case l => k_is)); (case k8 => refine' Cr.ktup0 ?l; (case l => k_is)))
    (case p_c0 => k_is)
    (case p_e0 => refine' Cr.errK ?zi ?zl ?zc ?zs ?zt ?zp; (case zi => k_is); (case zl => k_is); (case zc => k_is); (case zs => refine' Cr.supG_mk ?xo ?xa ?xb ?xc ?xd ?xe ?xf ?xg ?xh ?xi; (case xo => refine' Cr.oexG_mk Cr.xbV_ok ?y1 ?y2 ?y3 ?y4 ?y5 ?y6; (case y1 => k_is); (case y2 => first | rfl | kernel_rfl | k_is); (case y3 => k_is); (case y4 => k_is); (case y5 => k_is); (case y6 => k_is)); (case xa => k_is); (case xb => first | rfl | k_is); (case xc => first | rfl | decide +kernel); (case xd => k_is); (case xe => k_is); (case xf => k_is); (case xg => first | ks_is | k_is); (case xh => k_is); (case xi => first | rfl | decide +kernel)); (case zt => k_is); (case zp => k_is))
    (case p_c1 => k_is)
    (case p_e1 => refine' Cr.errK ?zi ?zl ?zc ?zs ?zt ?zp; (case zi => k_is); (case zl => k_is); (case zc => k_is); (case zs => refine' Cr.supG_mk ?xo ?xa ?xb ?xc ?xd ?xe ?xf ?xg ?xh ?xi; (case xo => refine' Cr.oexG_mk Cr.xbR_ok ?y1 ?y2 ?y3 ?y4 ?y5 ?y6; (case y1 => k_is); (case y2 => first | rfl | kernel_rfl | k_is); (case y3 => k_is); (case y4 => k_is); (case y5 => k_is); (case y6 => k_is)); (case xa => k_is); (case xb => first | rfl | k_is); (case xc => first | rfl | decide +kernel); (case xd => k_is); (case xe => k_is); (case xf => k_is); (case xg => first | ks_is | k_is); (case xh => k_is); (case xi => first | rfl | decide +kernel)); (case zt => k_is); (case zp => k_is))
    (case p_cN => k_is)
    (case p_eN => k_exc)
    (case p_eK => k_is)
    (case p_eB => k_is)
    (case p_eT => k_is)
    (case p_cLo => k_is)
    (case p_cTx => k_is)
    (case p_cWs => k_is)
    (case p_cNn => k_is)
    (case p_xcW => refine' ⟨?h1, ?h2, ?h3, ?h4, ?h5, ?h6, ?h7, ?h8⟩; (case h1 => k_is); (case h2 => k_is); (case h3 => k_is); (case h4 => k_is); (case h5 => k_is); (case h6 => k_is); (case h7 => k_is); (case h8 => k_is))
    (case p_xcP => refine' ⟨?h1, ?h2, ?h3, ?h4, ?h5, ?h6, ?h7, ?h8⟩; (case h1 => k_is); (case h2 => k_is); (case h3 => k_is); (case h4 => k_is); (case h5 => k_is); (case h6 => k_is); (case h7 => k_is); (case h8 => k_is))
    (case p_xcN => refine' ⟨?h1, ?h2, ?h3, ?h4, ?h5, ?h6, ?h7, ?h8⟩; (case h1 => k_is); (case h2 => k_is); (case h3 => k_is); (case h4 => k_is); (case h5 => k_is); (case h6 => k_is); (case h7 => k_is); (case h8 => k_is))
    (case p_xfW => refine' ⟨?h1, ?h2, ?h3, ?h4⟩; (case h1 => k_is); (case h2 => k_is); (case h3 => k_is); (case h4 => k_is))
    (case p_xfP => refine' ⟨?h1, ?h2, ?h3, ?h4⟩; (case h1 => k_is); (case h2 => k_is); (case h3 => k_is); (case h4 => k_is))
    (case p_i1 => kit_is)
    (case p_i2 => kit_is)
    (case p_i3 => kit_is)
    (case p_i4 => kit_is)
    (case p_i5 => kit_is)
    (case p_i6 => kit_is)
    (case p_i7 => kit_is)
    (case p_i8 => kit_is)
    (case p_i9 => kit_is)
    (case p_i10 => kit_is)
    (case p_i11 => kit_is)
    (case p_i12 => kit_is)
    (case p_i13 => kit_is)
    (case p_i14 => kit_is)
    (case p_m1 => refine' PySem.W.exm_ref ?h1 ?h2 ?h3 ?h4; (case h1 => k_is); (case h2 => k_is); (case h3 => k_is); (case h4 => k_is))
    (case p_m2 => refine' PySem.W.exm_ref ?h1 ?h2 ?h3 ?h4; (case h1 => k_is); (case h2 => k_is); (case h3 => k_is); (case h4 => k_is))
    (case p_m3 => refine' PySem.W.exm_ref ?h1 ?h2 ?h3 ?h4; (case h1 => k_is); (case h2 => k_is); (case h3 => k_is); (case h4 => k_is))
    (case p_m4 => refine' PySem.W.exm_ref ?h1 ?h2 ?h3 ?h4; (case h1 => k_is); (case h2 => k_is); (case h3 => k_is); (case h4 => k_is))
    (case p_m5 => refine' PySem.W.exm_ref ?h1 ?h2 ?h3 ?h4; (case h1 => k_is); (case h2 => k_is); (case h3 => k_is); (case h4 => k_is))
    (case p_cF => k_is)
    (case p_kF => refine' ⟨?h1, ?h2, ?h3, ?h4⟩; (case h1 => k_is); (case h2 => k_is); (case h3 => k_is); (case h4 => k_is))
    (case p_mF => k_is)
    (case p_pF => k_is)
    (case p_nS => show PySem.W.findIn _ _ _ = some none; k_is)
    (case p_nP => show PySem.W.findIn _ _ _ = some none; k_is)
    (case p_nM => show PySem.W.findIn _ _ _ = some none; k_is)
    (case p_nV => show PySem.W.findIn _ _ _ = some none; k_is)
    (case p_dInt => refine' Cr.defAt ?a ?l ?c ?k; (case a => k_is); (case l => k_is); (case c => k_is); (case k => k_is))
    (case p_dName => refine' Cr.defAt ?a ?l ?c ?k; (case a => k_is); (case l => k_is); (case c => k_is); (case k => k_is))
    (case p_dVar => refine' Cr.defAt ?a ?l ?c ?k; (case a => k_is); (case l => k_is); (case c => k_is); (case k => k_is))
    (case p_dBW => refine' Cr.defAt ?a ?l ?c ?k; (case a => k_is); (case l => k_is); (case c => k_is); (case k => k_is))
    (case p_dSM => refine' Cr.defAt ?a ?l ?c ?k; (case a => k_is); (case l => k_is); (case c => k_is); (case k => k_is))
    (case p_dItem => refine' Cr.defAt ?a ?l ?c ?k; (case a => k_is); (case l => k_is); (case c => k_is); (case k => k_is))
    (case p_dBI => refine' Cr.defAt ?a ?l ?c ?k; (case a => k_is); (case l => k_is); (case c => k_is); (case k => k_is))
    (case p_dStep => refine' Cr.defAt ?a ?l ?c ?k; (case a => k_is); (case l => k_is); (case c => k_is); (case k => k_is))
    (case p_dBP => refine' Cr.defAt ?a ?l ?c ?k; (case a => k_is); (case l => k_is); (case c => k_is); (case k => k_is))
    (case p_dPlain => refine' Cr.defAt ?a ?l ?c ?k; (case a => k_is); (case l => k_is); (case c => k_is); (case k => k_is))
    (case p_dBef => refine' Cr.defAt ?a ?l ?c ?k; (case a => k_is); (case l => k_is); (case c => k_is); (case k => k_is))
    (case p_dChk => refine' Cr.defAt ?a ?l ?c ?k; (case a => k_is); (case l => k_is); (case c => k_is); (case k => k_is))
    (case p_dC => refine' Cr.defKw ?a ?l ?c ?k ?m; (case a => k_is); (case l => k_is); (case c => k_is); (case k => k_is); (case m => k_is))
    (case p_mI => refine' Cr.methAt ?a ?i ?l ?c ?k ?t; (case a => k_is); (case i => k_is); (case l => k_is); (case c => k_is); (case k => k_is); (case t => k_is))
    (case p_mL => refine' Cr.methAt ?a ?i ?l ?c ?k ?t; (case a => k_is); (case i => k_is); (case l => k_is); (case c => k_is); (case k => k_is); (case t => k_is))
    (case p_mN => refine' Cr.methAt ?a ?i ?l ?c ?k ?t; (case a => k_is); (case i => k_is); (case l => k_is); (case c => k_is); (case k => k_is); (case t => k_is))
    (case p_mX => refine' Cr.methAt ?a ?i ?l ?c ?k ?t; (case a => k_is); (case i => k_is); (case l => k_is); (case c => k_is); (case k => k_is); (case t => k_is))
    (case p_mV => refine' Cr.methAt ?a ?i ?l ?c ?k ?t; (case a => k_is); (case i => k_is); (case l => k_is); (case c => k_is); (case k => k_is); (case t => k_is))
    (case p_mO => refine' Cr.methAt ?a ?i ?l ?c ?k ?t; (case a => k_is); (case i => k_is); (case l => k_is); (case c => k_is); (case k => k_is); (case t => k_is))
    (case p_mMv => refine' Cr.methAt ?a ?i ?l ?c ?k ?t; (case a => k_is); (case i => k_is); (case l => k_is); (case c => k_is); (case k => k_is); (case t => k_is))
    (case p_mR => refine' Cr.methAt ?a ?i ?l ?c ?k ?t; (case a => k_is); (case i => k_is); (case l => k_is); (case c => k_is); (case k => k_is); (case t => k_is))
    (case p_mP => refine' Cr.methKw ?a ?i ?l ?c ?k ?n; (case a => k_is); (case i => k_is); (case l => k_is); (case c => k_is); (case k => k_is); (case n => k_is))
    (case p_dGv => refine' Cr.defAt ?a ?l ?c ?k; (case a => k_is); (case l => k_is); (case c => k_is); (case k => k_is))
    (case p_dPot => refine' Cr.defAt ?a ?l ?c ?k; (case a => k_is); (case l => k_is); (case c => k_is); (case k => k_is))
    (case p_dDraw => refine' Cr.defAt ?a ?l ?c ?k; (case a => k_is); (case l => k_is); (case c => k_is); (case k => k_is))
    (case p_dPick => refine' Cr.defAt ?a ?l ?c ?k; (case a => k_is); (case l => k_is); (case c => k_is); (case k => k_is))
    (case p_dNa => refine' Cr.defAt ?a ?l ?c ?k; (case a => k_is); (case l => k_is); (case c => k_is); (case k => k_is))
    (case p_dNs => refine' Cr.defAt ?a ?l ?c ?k; (case a => k_is); (case l => k_is); (case c => k_is); (case k => k_is))
    (case p_dSt => refine' Cr.defAt ?a ?l ?c ?k; (case a => k_is); (case l => k_is); (case c => k_is); (case k => k_is))
    (case p_dPr => refine' Cr.defAt ?a ?l ?c ?k; (case a => k_is); (case l => k_is); (case c => k_is); (case k => k_is))
    (case p_dKi => refine' Cr.defAt ?a ?l ?c ?k; (case a => k_is); (case l => k_is); (case c => k_is); (case k => k_is))
    (case p_dTo => refine' Cr.defAt ?a ?l ?c ?k; (case a => k_is); (case l => k_is); (case c => k_is); (case k => k_is))
    (case p_dDu => refine' Cr.defAt ?a ?l ?c ?k; (case a => k_is); (case l => k_is); (case c => k_is); (case k => k_is))
    (case p_dSh => refine' Cr.defAt ?a ?l ?c ?k; (case a => k_is); (case l => k_is); (case c => k_is); (case k => k_is))
    (case p_dTr => refine' Cr.defAt ?a ?l ?c ?k; (case a => k_is); (case l => k_is); (case c => k_is); (case k => k_is))
    (case p_dRe => refine' Cr.defAt ?a ?l ?c ?k; (case a => k_is); (case l => k_is); (case c => k_is); (case k => k_is))
    (case p_dSp => refine' Cr.defAt ?a ?l ?c ?k; (case a => k_is); (case l => k_is); (case c => k_is); (case k => k_is))
    (case p_dLaw => refine' Cr.defAt ?a ?l ?c ?k; (case a => k_is); (case l => k_is); (case c => k_is); (case k => k_is))
