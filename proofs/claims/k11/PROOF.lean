import PyProof.Rows.All
import Wide.All
import OpenK.AllK
import Wide.FinOn
import PyProof.ReprRoads
import KE.GoesMore
import HandS.ForMost
import HandS.Evl
import HandS.IsInst
import HandS.Zip
import HandS.WideBits
import HandS.EndBits
import HandS.More
import HandS.Walk
import HandS.TupAny
import HandS.Style
import HandS.Steps
import PySem.Challenge.RW_cycleready_k11_words_and_steps
set_option Elab.async false
set_option linter.all false
set_option maxRecDepth 100000
set_option maxHeartbeats 4000000
/-! Cr, part 1: promises of defs that hold where no repr is under way (so that repr may be asked inside of them). -/
namespace Cr
open PySem PySem.Spec PyProof.Rows L2 Evl

/-- nothing is being shown around -/
abbrev Quiet (A : Around) : Prop := A.guards = some []

/-- a def's promise, kept where it is quiet -/
structure FnG (P : Program) (w : World) (K : PySem.W.Frag) (mg : Str → Option Value) (base : Heap) (CX : CXT) (k : Nat) (f : Addr) (fd : FuncData) (ps : List Str) (sp : Sp) : Prop where
  sized : ∀ vs H Q E, sp vs H Q E → vs.length = ps.length
  goes : ∀ (A : Around) (outer : List Env) (s : Shared) (H : Hp) (args : Args) (us : List Value) (vs : List V) (Q : VK) (E : XK),
    Quiet A → Room k A → Env0 P w K mg base A outer s H → BindsTo s fd args (ps.zip us) → Vals vs us → sp vs H Q E →
    codeAny (model P w) A (.call (.ref f) args) (CR CX outer P w H s Q E) s

section
variable {P : Program} {w : World} {K : PySem.W.Frag} {mg : Str → Option Value} {base : Heap}

theorem FnG.ofOk {CX : CXT} {k : Nat} {f : Addr} {fd : FuncData} {ps : List Str} {sp : Sp}
    (F : FnOk P w K mg base CX k f fd ps sp) : FnG P w K mg base CX k f fd ps sp :=
  ⟨F.len, fun A outer s H args us vs Q E _ hr e hb r h => F.run A outer s H args us vs Q E hr e hb r h⟩

theorem FnG.up {CX : CXT} {j k : Nat} {f : Addr} {fd : FuncData} {ps : List Str} {sp : Sp}
    (F : FnG P w K mg base CX j f fd ps sp) (le : j ≤ k) : FnG P w K mg base CX k f fd ps sp :=
  ⟨F.sized, fun A outer s H args us vs Q E hq hr e hb r h => F.goes A outer s H args us vs Q E hq (hr.mono le) e hb r h⟩

/-- a def by its body, where it is quiet -/
theorem okG {x qual : Str} {st : Stmt} {f : Addr} {fd : FuncData} {N ps : List Str} {k : Nat} {sp : Sp}
    (F : Fun K x qual st f fd) (S : FnScope N ps (defScope st)) (len : ∀ vs H Q E, sp vs H Q E → vs.length = ps.length)
    (hbody : ∀ (cdv : Value) (A : Around) (outer : List Env) (s : Shared) (H : Hp) (vs : List V) (Q : VK) (E : XK),
      Quiet (A.deeper (envOfC qual (defScope st) s.heap.objs.size f cdv)) →
      Room k (A.deeper (envOfC qual (defScope st) s.heap.objs.size f cdv)) → sp vs H Q E →
      ∃ t, PSs (cxOf CX0 P w K mg base N qual (defScope st) f cdv A outer s H E).nox (defBody st) t ∧
        t { nx := fun _ H' => Q .non H', rt := Q } (start N vs) H) :
    FnG P w K mg base CX0 (k + 1) f fd ps sp := by
  obtain ⟨oc, od, kV, doc, pm, an, cdv, ct, osl, rfl, lk, hcd⟩ := F.ex
  refine ⟨len, fun A outer s H args us vs Q E hq hr e0 hb r hsp => ?_⟩
  have keepB : ∀ b o, base.get? b = some o → s.heap.get? b = some o := fun b o e => (e0.bs b o e).1
  have kinds : ((ps.zip us).all fun y => (defScope st).names.lookup y.1 == some .local || (defScope st).names.lookup y.1 == some .cell) = true := by
    refine List.all_eq_true.mpr fun y hy => ?_
    obtain ⟨n, v⟩ := y
    rcases S.par n (List.of_mem_zip hy).1 with z | z
    · simp [z]
    · simp [z]
  refine Att.call_fn (binds := ps.zip us) (e0.mod.kin.keeps keepB) (e0.mod.nolimit.keeps keepB) lk hcd hr.depth hb kinds (fun s1 IC => ?_) S.co S.gen S.kind
  obtain ⟨t, ht, hT⟩ := hbody cdv A outer s H vs Q E hq (hr.deeper _) hsp
  have I := inv_start (CX := CX0) (E := E) S hr.hd e0 (len _ _ _ _ hsp) r IC
  refine wpAny_mono (ht.nox.run [] s1 (start N vs) H _ I hT) (fun fl s2 h2 => ?_) fun e s2 h2 => h2
  match fl, h2 with
  | .ret u, ⟨v, σ2, H2, J, rv, q⟩ => exact ⟨v, H2, J.os, J.bare, J.base, J.hok, rv, q⟩
  | .next, ⟨σ2, H2, J, q⟩ => exact ⟨V.non, H2, J.os, J.bare, J.base, J.hok, rfl, q⟩
  | .brk, ⟨_, _, _, q⟩ => exact q.elim
  | .cont, ⟨_, _, _, q⟩ => exact q.elim
end

section
variable {X : Cx} {CX : CXT} {k : Nat} {f : Addr} {fd : FuncData} {ps : List Str} {sp : Sp} {dvs : List V} {ds : List Value} {E : XK}

/-- the callee, called where it is quiet -/
theorem runG {pins : List (Addr × Obj)} {σ : L2.St} {H : Hp} {s : Shared} {Q : VK} {us : List Value} {vs : List V}
    (F : FnG X.prog X.w X.K X.mg X.base CX k f fd ps sp) (hq : Quiet X.A) (hr : Room k X.A) (hb : Binds X.K fd ps ds) (hd : Vals dvs ds)
    (hx : Passes CX X E) (I : Inv X pins σ H s) (r : Vals vs us) (h : sp (vs ++ dvs) H Q E) :
    wpAny (model X.prog X.w) X.A (call (.ref f) us) (EP X pins σ Q) X.xe s := by
  have rr : Vals (vs ++ dvs) (us ++ ds) := Vals.append r hd
  have nn : (us ++ ds).length = ps.length := rr.length.symm.trans (F.sized _ _ _ _ h)
  have c := F.goes X.A X.stack s H ⟨us, []⟩ (us ++ ds) (vs ++ dvs) Q E hq hr (Inv.env0 I) (hb s us I.kIn nn) rr h
  refine wpAny_call (codeAny_mono c fun res s2 z => ?_)
  match res, z with
  | .error e, z => exact hx pins σ H s e s2 I z
  | .ok (.ret u), z => exact Inv.after I z
  | .ok .next, z => exact False.elim z
  | .ok .brk, z => exact False.elim z
  | .ok .cont, z => exact False.elim z

variable {x : Str} {p pos : Pos} {e : Expr} {es : List Expr} {t : TA}
theorem callG (F : FnG X.prog X.w X.K X.mg X.base CX k f fd ps sp) (hq : Quiet X.A) (hr : Room k X.A) (hg : Gl X x)
    (hm : X.mg x = some (.ref f)) (hk : PySem.W.keepIn X.K (.ref f) = true) (hb : Binds X.K fd ps ds) (hd : Vals dvs ds) (hx : Passes CX X E)
    (ha : PA X (e :: es) t) (hdb : (x == ("__debug__" : Str)) = false := by decide)
    (he : starEach (e :: es) X.env = (false, eval e X.env) :: starEach es X.env := by rfl)
    (hpl : (backTo pos (starEach es X.env)).any (·.1) = false := by rfl) :
    PE X (.Call (.Name x p) (e :: es) [] pos) (tCall sp dvs E t) := by
  constructor
  intro pins s σ H Q I h
  refine wpAny_Call_Name_kw (ld_glob I hg hm ?_ hdb)
  refine PySem.W.callWith_K (h₀ := X.base) I.ok.mod.kin hk ?_ he hpl
  refine thn (ha.run pos pins s σ H _ I h) ?_
  rintro us s1 ⟨vs, H1, I1, r, q⟩
  exact ⟨I1.kIn, runG F hq hr hb hd hx I1 r q⟩
theorem call0G (F : FnG X.prog X.w X.K X.mg X.base CX k f fd ps sp) (hq : Quiet X.A) (hr : Room k X.A) (hg : Gl X x)
    (hm : X.mg x = some (.ref f)) (hk : PySem.W.keepIn X.K (.ref f) = true) (hb : Binds X.K fd ps ds) (hd : Vals dvs ds) (hx : Passes CX X E)
    (hdb : (x == ("__debug__" : Str)) = false := by decide) : PE X (.Call (.Name x p) [] [] pos) (tCall sp dvs E tNil) := by
  constructor
  intro pins s σ H Q I h
  refine wpAny_Call_Name_kw (ld_glob I hg hm ?_ hdb)
  exact PySem.W.callWith_K0 I.kIn hk (runG (us := []) F hq hr hb hd hx I .nil h)
end

/-! ### the law's own call -/
theorem law_callG {P : Program} {w : World} {K : PySem.W.Frag} {mg mb : Str → Option Value} {k : Nat} {fa a : Addr} {fd : FuncData} {x : Str} {sp : Sp} {s₁ : Shared} {vs : List Value} {ns : List Int}
    (KX : K.In s₁.heap) (hns : s₁.heap.Ns mainGlobals mg) (hb : s₁.heap.Ns builtinsNs mb) (hbb : ∀ x : Str, x ≠ "__name__" → mb x = bootBuiltins x)
    (hlim : s₁.heap.NoLimit) (hg : s₁.gens = #[]) (ha : s₁.heap.get? a = some { cls := .type "list", data := .seq vs.toArray })
    (hi : IntsAre vs ns) (hl : ns.length ≤ sizeLine) (hr : Room k callerA)
    (F : ∀ base : Heap, K.In base → base.Ns mainGlobals mg → FnG P w K mg base CX0 k fa fd [x] sp)
    (hbind : ∀ (s : Shared) (u : Value), BindsTo s fd ⟨[u], []⟩ [(x, u)])
    (hsp : ∀ H : Hp, SqL K H a (ns.map V.int) → sp [.ref a] H (fun v _ => v = .bl true) E0) :
    codeAny (model P w) callerA (.call (.ref fa) ⟨[.ref a], []⟩) (fun r s' => r = .ok (.ret (.bool true)) ∧ OldK s₁.heap s'.heap ∧ s'.os = s₁.os ∧ AllBare s'.gens) s₁ := by
  have rv := vals_ints hi
  have lenV := hi.length
  have core : ∀ H : Hp, (∀ b, H b = none ∨ (b = a ∧ H b = some (.frz { cls := .type "list", data := .seq vs.toArray } (.lst (ns.map V.int))) ∧ K.lookup a = none)) →
      SqL K H a (ns.map V.int) →
      codeAny (model P w) callerA (.call (.ref fa) ⟨[.ref a], []⟩) (fun r s' => r = .ok (.ret (.bool true)) ∧ OldK s₁.heap s'.heap ∧ s'.os = s₁.os ∧ AllBare s'.gens) s₁ := by
    intro H hO hS
    have hok : HOk P w H s₁.heap := fun b u z => by
      rcases hO b with q | ⟨rfl, q, _⟩
      · rw [q] at z; cases z
      · rw [q] at z; cases z
        exact ⟨ha, by rw [List.length_map]; exact hl, vs, _, rv, ha⟩
    have keepN : ∀ {b : Addr} {m : Str → Option Value}, s₁.heap.Ns b m → (hidT s₁.heap H).Ns b m := fun {b m} z => by
      obtain ⟨o, es, ep, e, d, r⟩ := z
      refine ⟨o, es, ep, hidT_get e ?_, d, r⟩
      rcases hO b with q | ⟨rfl, q, _⟩
      · exact q
      · rw [ha] at e
        cases e
        have d' : Data.seq vs.toArray _ = Data.dict es ep := d
        cases d'
    have keepK : K.In (hidT s₁.heap H) := fun b o e => by
      refine hidT_get (KX b o e) ?_
      rcases hO b with q | ⟨rfl, q, n⟩
      · exact q
      · rw [n] at e; cases e
    have hM : Mod K mg (hidT s₁.heap H) := by
      obtain ⟨mc, l1, l2⟩ := hlim
      exact ⟨keepK, keepN hns, ⟨mb, keepN hb, hbb⟩, ⟨mc, keepN l1, l2⟩⟩
    have e0 : Env0 P w K mg (hidT s₁.heap H) callerA [] s₁ H :=
      { frames := rfl, mod := hM, bs := fun b o e => of_hidT e, bsz := Nat.le_of_eq (hidT_size _ _), funs := trivial,
        frf := fun b z => absurd (show b ∈ ([] : List Addr) from z) List.not_mem_nil, hok := hok, bare := .of_eq hg }
    have go := (F _ keepK (keepN hns)).goes callerA [] s₁ H ⟨[.ref a], []⟩ [.ref a] [.ref a] _ _ rfl hr e0 (hbind s₁ (.ref a)) (.cons rfl .nil) (hsp H hS)
    refine codeAny_mono go fun res s2 z => ?_
    match res, z with
    | .error e, z => exact z.elim
    | .ok .next, z => exact False.elim z
    | .ok .brk, z => exact False.elim z
    | .ok .cont, z => exact False.elim z
    | .ok (.ret u), ⟨v, H2, os, bare, un, hok2, rel, q⟩ =>
      have qv : v = .bl true := q
      subst qv
      obtain rfl : u = Value.bool true := rel
      refine ⟨rfl, OldK.of_keep fun b o e => ?_, os, bare⟩
      rcases hO b with z | ⟨rfl, z, _⟩
      · exact un.keep b o e z (fun y => absurd (show b ∈ ([] : List Addr) from y) List.not_mem_nil) List.not_mem_nil
      · obtain ⟨g1, _⟩ := hok2 b _ (un.frzs b _ _ z)
        rw [ha] at e
        cases e
        exact g1
  cases hk : K.lookup a with
  | some o =>
    have e := KX a o hk
    rw [ha] at e
    cases e
    exact core (fun _ => none) (fun _ => .inl rfl) (.inr ⟨_, vs.toArray, _, hk, rfl, rfl, rfl, by rw [List.size_toArray, lenV]; exact hl, by simpa using rv⟩)
  | none =>
    refine core (fun b => if b = a then some (.frz { cls := .type "list", data := .seq vs.toArray } (.lst (ns.map V.int))) else none) (fun b => ?_) (.inl (.inr ⟨_, if_pos rfl⟩))
    by_cases hb : b = a
    · exact .inr ⟨hb, if_pos hb, hk⟩
    · exact .inl (if_neg hb)

/-- the end of a law row, the script's bits told -/
theorem walkG {l : PySem.W.OpenLaw} {n k : Nat} {q : Program} {loose : List Str} {XP : (Str → Option Value) → Heap → Prop} {YP : World → Heap → Prop} {d : DefRec} {K : Params → PySem.W.Frag} {sp : World → Sp} {x : Str}
    (hn : l.most = some n) (hn2 : n ≤ sizeLine) (hdf : d.params.defaults = []) (hr : Room k callerA)
    (hY : ∀ (w : World) (h : Heap), YP w h → (K w.params).In h)
    (F : ∀ (w : World) (mg : Str → Option Value) (fa : Addr) (h : Heap), (K w.params).In h → h.Ns mainGlobals mg → mg d.name = some (.ref fa) →
      ∃ fd : FuncData, (∀ (s : Shared) (u : Value), BindsTo s fd ⟨[u], []⟩ [(x, u)]) ∧
        ∀ base : Heap, (K w.params).In base → base.Ns mainGlobals mg → FnG l.prog w (K w.params) mg base CX0 k fa fd [x] (sp w))
    (hsp : ∀ (w : World) (H : Hp) (a : Addr) (ns : List Int), ns.length ≤ n → (∀ z ∈ ns, Builtin.Int.intBits z ≤ 1048576) →
      SqL (K w.params) H a (ns.map V.int) → sp w [.ref a] H (fun v _ => v = .bl true) E0) :
    PySem.W.WalkO q loose XP YP l.row.toRowW d [] (fun f vs => PySem.call f vs) := by
  refine Att.attach_callB hn hdf ?_
  intro w s₀ s₁ mg mb fa o pm cd doc a vs ns G Y ho hd hcd hmg hobj hints hlen hbits hgen
  obtain ⟨fd, hb, hF⟩ := F w mg fa _ (hY w _ Y) G.T.g hmg
  exact law_callG (hY w _ Y) G.T.g G.T.b G.T.builtins G.T.nolimit hgen hobj hints (Nat.le_trans hlen hn2) hr hF hb
    (fun H hS => hsp w H a ns hlen hbits hS)
end Cr
/-! Cr, part 2: data in the abstract heap, repr of it, isinstance of it. -/
namespace Cr
open PySem PySem.Spec PyProof.Rows L2 Evl

def kD : Key → PyData
  | .inl i => .int i
  | .inr x => .str x

mutual
/-- the value v is the data d, all of it tracked -/
inductive Dt (H : Hp) : V → PyData → Prop
  | non : Dt H .non .none
  | bl (b : Bool) : Dt H (.bl b) (.bool b)
  | int (i : Int) : Dt H (.int i) (.int i)
  | str (x : Str) : Dt H (.str x) (.str x)
  | lst {a : Addr} {xs : List V} {ds : List PyData} : H a = some (.lst xs) → DtAll H xs ds → Dt H (.ref a) (.list ds)
  | tup {a : Addr} {xs : List V} {ds : List PyData} : H a = some (.tup xs) → DtAll H xs ds → Dt H (.ref a) (.tuple ds)
  | dct {a : Addr} {kvs : List (Key × V)} {es : List (PyData × PyData)} : H a = some (.dK kvs) → DtKv H kvs es → Dt H (.ref a) (.dict es)
inductive DtAll (H : Hp) : List V → List PyData → Prop
  | nil : DtAll H [] []
  | cons {v : V} {vs : List V} {d : PyData} {ds : List PyData} : Dt H v d → DtAll H vs ds → DtAll H (v :: vs) (d :: ds)
inductive DtKv (H : Hp) : List (Key × V) → List (PyData × PyData) → Prop
  | nil : DtKv H [] []
  | cons {k : Key} {v : V} {kvs : List (Key × V)} {d : PyData} {es : List (PyData × PyData)} : Dt H v d → DtKv H kvs es → DtKv H ((k, v) :: kvs) ((kD k, d) :: es)
end

mutual
theorem Dt.ex {H H' : Hp} (e : Ex H H') : ∀ {v : V} {d : PyData}, Dt H v d → Dt H' v d
  | _, _, .non => .non
  | _, _, .bl b => .bl b
  | _, _, .int i => .int i
  | _, _, .str x => .str x
  | _, _, .lst h a => .lst (e _ _ h) (DtAll.ex e a)
  | _, _, .tup h a => .tup (e _ _ h) (DtAll.ex e a)
  | _, _, .dct h a => .dct (e _ _ h) (DtKv.ex e a)
theorem DtAll.ex {H H' : Hp} (e : Ex H H') : ∀ {vs : List V} {ds : List PyData}, DtAll H vs ds → DtAll H' vs ds
  | _, _, .nil => .nil
  | _, _, .cons h t => .cons (Dt.ex e h) (DtAll.ex e t)
theorem DtKv.ex {H H' : Hp} (e : Ex H H') : ∀ {kvs : List (Key × V)} {es : List (PyData × PyData)}, DtKv H kvs es → DtKv H' kvs es
  | _, _, .nil => .nil
  | _, _, .cons h t => .cons (Dt.ex e h) (DtKv.ex e t)
end

theorem DtAll.length {H : Hp} : ∀ {vs : List V} {ds : List PyData}, DtAll H vs ds → vs.length = ds.length
  | _, _, .nil => rfl
  | _, _, .cons _ t => by simp [DtAll.length t]
theorem DtKv.len {H : Hp} : ∀ {kvs : List (Key × V)} {ds : List (PyData × PyData)}, DtKv H kvs ds → kvs.length = ds.length
  | _, _, .nil => rfl
  | _, _, .cons _ t => by simp [DtKv.len t]
theorem DtAll.get {H : Hp} : ∀ {vs : List V} {ds : List PyData} {i : Nat} {v : V}, DtAll H vs ds → vs[i]? = some v → ∃ d, ds[i]? = some d ∧ Dt H v d
  | _, _, _, _, .nil, h => by simp at h
  | _, _, 0, _, .cons h _, e => by simp at e; subst e; exact ⟨_, rfl, h⟩
  | _, _, i + 1, _, .cons _ t, e => by
    obtain ⟨d, h1, h2⟩ := DtAll.get (i := i) t (by simpa using e)
    exact ⟨d, by simpa using h1, h2⟩
theorem DtAll.append {H : Hp} : ∀ {vs ws : List V} {ds es : List PyData}, DtAll H vs ds → DtAll H ws es → DtAll H (vs ++ ws) (ds ++ es)
  | _, _, _, _, .nil, s => s
  | _, _, _, _, .cons h t, s => .cons h (DtAll.append t s)
theorem DtAll.drop {H : Hp} : ∀ {vs : List V} {ds : List PyData} (n : Nat), DtAll H vs ds → DtAll H (vs.drop n) (ds.drop n)
  | _, _, 0, h => h
  | _, _, _ + 1, .nil => .nil
  | _, _, n + 1, .cons _ t => DtAll.drop n t
theorem DtAll.take {H : Hp} : ∀ {vs : List V} {ds : List PyData} (n : Nat), DtAll H vs ds → DtAll H (vs.take n) (ds.take n)
  | _, _, 0, _ => .nil
  | _, _, _ + 1, .nil => .nil
  | _, _, n + 1, .cons h t => .cons h (DtAll.take n t)
theorem DtAll.set {H : Hp} {v : V} {d : PyData} (hv : Dt H v d) : ∀ {vs : List V} {ds : List PyData} (n : Nat), DtAll H vs ds → DtAll H (vs.set n v) (ds.set n d)
  | _, _, _, .nil => .nil
  | _, _, 0, .cons _ t => .cons hv t
  | _, _, n + 1, .cons h t => .cons h (DtAll.set hv n t)

/-! ### the heap without one object -/
def wo (p : Addr) (H : Hp) : Hp := fun a => if a = p then none else H a
theorem wo_ne {p a : Addr} {H : Hp} (h : a ≠ p) : wo p H a = H a := if_neg h
theorem wo_same {p : Addr} {H : Hp} : wo p H p = none := if_pos rfl
theorem wo_some {p a : Addr} {H : Hp} {o : HO} (h : wo p H a = some o) : a ≠ p ∧ H a = some o := by
  by_cases e : a = p
  · subst e
    rw [wo_same] at h
    cases h
  · rw [wo_ne e] at h
    exact ⟨e, h⟩
theorem wo_ex (p : Addr) (H : Hp) : Ex (wo p H) H := fun a o h => (wo_some h).2
theorem Ex.wo {p : Addr} {H H' : Hp} (e : Ex H H') : Ex (Cr.wo p H) (Cr.wo p H') := fun a o h => by
  obtain ⟨n, h⟩ := wo_some h
  rw [wo_ne n]
  exact e a o h
theorem wo_upd {p : Addr} {H H' : Hp} {o : HO} (e : Ex (wo p H) (wo p H')) : Ex (wo p H) (wo p (upd H' p o)) := fun a u h => by
  have n := (wo_some h).1
  have q := e a u h
  rw [wo_ne n] at q
  rw [wo_ne n, upd_ne n]
  exact q

/-! ### the kind of data -/
def tyT : PyData → String
  | .none => "NoneType"
  | .bool _ => "bool"
  | .int _ => "int"
  | .str _ => "str"
  | .list _ => "list"
  | .tuple _ => "tuple"
  | .dict _ => "dict"
theorem Dt.ty {K : PySem.W.Frag} {H : Hp} {v : V} {d : PyData} (h : Dt H v d) : TyX K H v (.type (tyT d)) := by
  cases h with
  | non => exact .base .non
  | bl b => exact .base (.bl b)
  | int i => exact .base (.int i)
  | str x => exact .base (.str x)
  | lst h _ => exact .base (.lst h)
  | tup h _ => exact .base (.tup h)
  | dct h _ => exact .base (.dK h)
/-- isinstance(v, T), T one of the plain types -/
def isTs (T t : String) : Bool := t == T || (T == "int" && t == "bool")
def isT (T : String) (d : PyData) : Bool := isTs T (tyT d)
theorem kitS : ∀ t ∈ ["NoneType", "bool", "int", "str", "list", "tuple", "dict"], ∀ T ∈ ["int", "bool", "str", "list", "tuple", "dict"], kitB t T = some (isTs T t) := by decide +kernel
theorem tyT_mem (d : PyData) : tyT d ∈ ["NoneType", "bool", "int", "str", "list", "tuple", "dict"] := by
  cases d <;> simp [tyT]
theorem kit_isT {K : PySem.W.Frag} {T : String} (hT : T ∈ ["int", "bool", "str", "list", "tuple", "dict"]) (d : PyData) :
    PySem.W.kitOne K (.type (tyT d)) (.type T) = some (isT T d) := kit_ty (kitS _ (tyT_mem d) _ hT)
/-- isinstance on data -/
theorem rc_isi {K : PySem.W.Frag} {H : Hp} {v : V} {d : PyData} {T : String} (h : Dt H v d) (hT : T ∈ ["int", "bool", "str", "list", "tuple", "dict"]) :
    RC (rIsi K) [v, .ty T] H (.bl (isT T d)) := fun H1 e Q q =>
  ⟨v, .ty T, .type (tyT d), .type T, isT T d, rfl, .ty T, (Dt.ex e h).ty, kit_isT hT d, q H1 (Ex.refl H1)⟩

/-! ### repr -/
section
variable {X : Cx} {pins : List (Addr × Obj)} {σ : L2.St} {H : Hp} {s : Shared}
/-- what is shown of a value, at any heap that keeps this one -/
def Shown (P : Program) (w : World) (h : Heap) (v : Value) (d : PyData) : Prop :=
  (∃ as, Reads h v d as) ∧ (d.showable = true → d.shown.length ≤ sizeLine → ∃ bs, ReadAtMost h d.depth bs ∧ ReprK P w bs h d.depth v d.shown)
def ShownAll (P : Program) (w : World) (h : Heap) (vs : List Value) (ds : List PyData) : Prop :=
  (∃ as, ReadsAll h vs ds as) ∧ (PyData.showableAll ds = true → (∀ t ∈ PyData.shownAll ds, t.length ≤ sizeLine) →
    ∃ bs, ReadAtMost h (PyData.depthAll ds) bs ∧ ReprAllK P w bs h (PyData.depthAll ds) vs (PyData.shownAll ds))
theorem ShownAll.nil {P : Program} {w : World} {h : Heap} : ShownAll P w h [] [] :=
  ⟨⟨_, .nil⟩, fun _ _ => ⟨[], (fun _ z => nomatch z), by rw [PyData.shownAll]; exact .nil⟩⟩
theorem ShownAll.cons {P : Program} {w : World} {h : Heap} {v : Value} {vs : List Value} {d : PyData} {ds : List PyData} (a : Shown P w h v d) (b : ShownAll P w h vs ds) : ShownAll P w h (v :: vs) (d :: ds) := by
  obtain ⟨⟨as, ra⟩, sa⟩ := a
  obtain ⟨⟨bs, rb⟩, sb⟩ := b
  refine ⟨⟨_, .cons ra rb⟩, fun hs hz => ?_⟩
  rw [PyData.showableAll, Bool.and_eq_true] at hs
  rw [PyData.shownAll] at hz
  obtain ⟨b1, m1, k1⟩ := sa hs.1 (hz _ (List.mem_cons_self ..))
  obtain ⟨b2, m2, k2⟩ := sb hs.2 fun t ht => hz t (List.mem_cons_of_mem _ ht)
  refine ⟨b1 ++ b2, ?_, ?_⟩
  · rw [PyData.depthAll]
    exact (m1.mono (Nat.le_max_left _ _)).append (m2.mono (Nat.le_max_right _ _))
  · rw [PyData.depthAll, PyData.shownAll]
    exact .cons ((k1.more fun b hb => List.mem_append_left _ hb).level_le (Nat.le_max_left _ _)) (k2.more_le (fun b hb => List.mem_append_right _ hb) (Nat.le_max_right _ _))
theorem Shown.list {P : Program} {w : World} {h : Heap} {a : Addr} {o : Obj} {vs : List Value} {n : Nat} {ds : List PyData} (g : h.get? a = some o) (c : o.cls = .type "list") (e : o.data = .seq vs.toArray n) (S : ShownAll P w h vs ds) : Shown P w h (.ref a) (.list ds) := by
  obtain ⟨⟨as, ra⟩, sa⟩ := S
  have R : Reads h (.ref a) (.list ds) (a :: as) := .list g c e (by simpa using ra)
  refine ⟨⟨_, R⟩, fun hs hz => ?_⟩
  rw [PyData.showable] at hs
  rw [PyData.shown] at hz
  obtain ⟨bs, m, k⟩ := sa hs fun t ht => Nat.le_trans (listText_mem_le ht) hz
  have no : a ∉ bs := not_mem_of_deeper R (by rw [PyData.depth]; omega) m
  refine ⟨a :: bs, ReadAtMost.cons R (by rw [PyData.depth]; omega) m, ?_⟩
  rw [PyData.depth, PyData.shown]
  cases vs with
  | nil =>
    cases ra
    rw [PyData.shownAll, listText_nil]
    exact ReprK.listEmpty g c e
  | cons x l => exact ReprK.list g c e no (by simpa using k.length_eq) fun i y q => k.item i y (by simpa using q)
theorem Shown.tuple {P : Program} {w : World} {h : Heap} {a : Addr} {o : Obj} {vs : List Value} {n : Nat} {ds : List PyData} (g : h.get? a = some o) (c : o.cls = .type "tuple") (e : o.data = .seq vs.toArray n) (S : ShownAll P w h vs ds) : Shown P w h (.ref a) (.tuple ds) := by
  obtain ⟨⟨as, ra⟩, sa⟩ := S
  have R : Reads h (.ref a) (.tuple ds) as := .tuple g c e (by simpa using ra)
  refine ⟨⟨_, R⟩, fun hs hz => ?_⟩
  rw [PyData.showable] at hs
  rw [PyData.shown] at hz
  obtain ⟨bs, m, k⟩ := sa hs fun t ht => Nat.le_trans (tupleText_mem_le ht) hz
  refine ⟨a :: bs, ReadAtMost.cons R (by rw [PyData.depth]; omega) m, ?_⟩
  rw [PyData.depth, PyData.shown]
  exact ReprK.tuple g c e (not_mem_of_deeper R (by rw [PyData.depth]; omega) m) (by simpa using k)
theorem Shown.dict {P : Program} {w : World} {h : Heap} {a : Addr} {o : Obj} {es : Array DictEntry} {n : Nat} {kvs : List (PyData × PyData)} (g : h.get? a = some o) (c : o.cls = .type "dict") (e : o.data = .dict es n) (sys : (a == sysModules) = false)
    (S1 : ShownAll P w h (es.toList.map (·.key)) (kvs.map (·.1))) (S2 : ShownAll P w h (es.toList.map (·.val)) (kvs.map (·.2))) : Shown P w h (.ref a) (.dict kvs) := by
  obtain ⟨⟨as, ra⟩, sa⟩ := S1
  obtain ⟨⟨bs, rb⟩, sb⟩ := S2
  have R : Reads h (.ref a) (.dict kvs) (a :: as ++ bs) := .dict g c e ra rb
  refine ⟨⟨_, R⟩, fun hs hz => ?_⟩
  rw [PyData.showable] at hs
  rw [PyData.shown] at hz
  obtain ⟨h1, h2⟩ := PyData.showableKv_split kvs hs
  obtain ⟨b1, m1, k1⟩ := sa h1 fun t ht => let ⟨p, hp, hl⟩ := PyData.shownKv_key_le kvs t ht; Nat.le_trans hl (Nat.le_trans (dictText_mem_le hp) hz)
  obtain ⟨b2, m2, k2⟩ := sb h2 fun t ht => let ⟨p, hp, hl⟩ := PyData.shownKv_val_le kvs t ht; Nat.le_trans hl (Nat.le_trans (dictText_mem_le hp) hz)
  have m := (m1.mono (PyData.depthAll_keys_le kvs)).append (m2.mono (PyData.depthAll_vals_le kvs))
  refine ⟨a :: (b1 ++ b2), ReadAtMost.cons R (by rw [PyData.depth]; omega) m, ?_⟩
  rw [PyData.depth, PyData.shown, PyData.shownKv_eq]
  refine ReprK.dict g c e sys (not_mem_of_deeper R (by rw [PyData.depth]; omega) m) ?_
  exact ReprEntriesK.of_two es.toList _ _ (k1.more_le (fun b hb => List.mem_append_left _ hb) (PyData.depthAll_keys_le kvs)) (k2.more_le (fun b hb => List.mem_append_right _ hb) (PyData.depthAll_vals_le kvs))
theorem Shown.key {P : Program} {w : World} {h : Heap} {k : Key} {v : Value} (q : keyIs k v = true) : Shown P w h v (kD k) := by
  rcases keyIs_shape q with ⟨i, t, rfl, rfl⟩ | ⟨x, t, rfl, rfl⟩
  · refine ⟨⟨_, Reads.int i t⟩, fun hs _ => ⟨[], (fun _ z => nomatch z), ?_⟩⟩
    simp only [kD, PyData.shown]
    exact .of_is (ReprIs.int t (by simpa [kD, PyData.showable] using hs)) _ _ _
  · refine ⟨⟨_, Reads.str x t⟩, fun _ hz => ⟨[], (fun _ z => nomatch z), ?_⟩⟩
    simp only [kD, PyData.shown] at hz ⊢
    exact .of_is (ReprIs.str x t hz) _ _ _
/-- keys and values of a tracked dict -/
theorem shown_pairs {P : Program} {w : World} {h : Heap} : ∀ {kvs : List (Key × V)} {us : List (Key × Value)} {es : List DictEntry} {ds : List (PyData × PyData)},
    KV kvs us → PySem.Pairs (mixKind P w) es us → (∀ (i : Nat) (k : Key) (v : V) (u : Value), kvs[i]? = some (k, v) → RelV v u → ∃ d, ds[i]? = some (kD k, d) ∧ Shown P w h u d) → kvs.length = ds.length →
    ShownAll P w h (es.map (·.key)) (ds.map (·.1)) ∧ ShownAll P w h (es.map (·.val)) (ds.map (·.2))
  | [], _, _, ds, kv, ps, _, hl => by
    cases kv
    cases ps
    cases ds with
    | nil => exact ⟨.nil, .nil⟩
    | cons x r => simp at hl
  | (k, v) :: r, _, _, ds, kv, ps, hv, hl => by
    cases kv with
    | cons h1 h2 =>
      rename_i q us'
      obtain ⟨e1, rv⟩ := h1
      cases ps with
      | cons p1 p2 p3 =>
        obtain ⟨d, ed, sd⟩ := hv 0 k v q.2 rfl rv
        cases ds with
        | nil => simp at hl
        | cons x ds' =>
          simp at ed
          subst ed
          have ih := shown_pairs h2 p3 (ds := ds') (fun i k' v' u' e r' => by
            obtain ⟨d', g1, g2⟩ := hv (i + 1) k' v' u' (by simpa using e) r'
            exact ⟨d', by simpa using g1, g2⟩) (by simpa using hl)
          have e1' : k = q.1 := e1
          rw [List.map_cons, List.map_cons, List.map_cons, List.map_cons]
          refine ⟨.cons (Shown.key (k := k) ?_) ih.1, .cons ?_ ih.2⟩
          · rw [e1']
            exact p1
          · show Shown P w h _ d
            rw [p2]
            exact sd
mutual
theorem Dt.shown (I : Inv X pins σ H s) : ∀ {v : V} {d : PyData}, Dt H v d → ∀ {u : Value}, RelV v u → Shown X.prog X.w s.heap u d
  | _, _, .non, _, r => by
    cases r
    exact ⟨⟨_, Reads.none⟩, fun _ _ => ⟨[], (fun _ z => nomatch z), by rw [PyData.shown]; exact .of_is ReprIs.none _ _ _⟩⟩
  | _, _, .bl b, _, r => by
    cases r
    exact ⟨⟨_, Reads.bool b⟩, fun _ _ => ⟨[], (fun _ z => nomatch z), by rw [PyData.shown]; exact .of_is (ReprIs.bool b) _ _ _⟩⟩
  | _, _, .int i, _, r => Shown.key (k := .inl i) (by obtain ⟨t, rfl⟩ := r; exact keyIs_int i t)
  | _, _, .str x, _, r => Shown.key (k := .inr x) (by obtain ⟨t, rfl⟩ := r; exact keyIs_str x t)
  | _, _, .lst (a := a) (xs := xs) h t, _, r => by
    cases r
    obtain ⟨_, its, n, rv, g⟩ := (show ObjOk X.prog X.w H s.heap a (.lst xs) from I.hok a _ h)
    exact Shown.list g rfl rfl (DtAll.shown I t rv)
  | _, _, .tup (a := a) (xs := xs) h t, _, r => by
    cases r
    obtain ⟨_, its, rv, o, g, c, n, e⟩ := (show ObjOk X.prog X.w H s.heap a (.tup xs) from I.hok a _ h)
    exact Shown.tuple g c e (DtAll.shown I t rv)
  | _, _, .dct (a := a) (kvs := kvs) (es := ds) h t, _, r => by
    cases r
    obtain ⟨_, sys, us, kv, o, es, ep, g, ex, e, _, ps, _⟩ := (show ObjOk X.prog X.w H s.heap a (.dK kvs) from I.hok a _ h)
    obtain ⟨s1, s2⟩ := shown_pairs kv ps (fun i k v u q r => DtKv.shown I t i k v u q r) (DtKv.len t)
    exact Shown.dict g ex.1 e sys s1 s2
theorem DtAll.shown (I : Inv X pins σ H s) : ∀ {vs : List V} {ds : List PyData}, DtAll H vs ds → ∀ {us : List Value}, Vals vs us → ShownAll X.prog X.w s.heap us ds
  | _, _, .nil, _, r => by
    cases r
    exact .nil
  | _, _, .cons h t, _, r => by
    cases r with
    | cons r1 r2 => exact .cons (Dt.shown I h r1) (DtAll.shown I t r2)
theorem DtKv.shown (I : Inv X pins σ H s) : ∀ {kvs : List (Key × V)} {ds : List (PyData × PyData)}, DtKv H kvs ds → ∀ (i : Nat) (k : Key) (v : V) (u : Value), kvs[i]? = some (k, v) → RelV v u → ∃ d, ds[i]? = some (kD k, d) ∧ Shown X.prog X.w s.heap u d
  | _, _, .nil, _, _, _, _, q, _ => by simp at q
  | _, _, .cons h t, 0, k, v, u, q, r => by
    simp at q
    obtain ⟨rfl, rfl⟩ := q
    exact ⟨_, rfl, Dt.shown I h r⟩
  | _, _, .cons h t, i + 1, k, v, u, q, r => by
    obtain ⟨d, g1, g2⟩ := DtKv.shown I t i k v u (by simpa using q) r
    exact ⟨d, by simpa using g1, g2⟩
end
end
end Cr
/-! Cr, part 3: repr as a rule; zip of a text and a tuple. -/
namespace Cr
open PySem PySem.Spec PyProof.Rows L2 Evl

/-- data whose text is short enough -/
structure Fits (d : PyData) : Prop where
  show1 : d.showable = true
  deep : d.depth ≤ 50
  size : d.shown.length ≤ sizeLine

def rRepr : List V → Hp → VK → Prop := fun xs H Q => ∃ v d, xs = [v] ∧ Dt H v d ∧ Fits d ∧ Q (.str d.shown) H
theorem call_reprG {X : Cx} (hq : Quiet X.A) (hu : X.A.units + 64 < cLine) : CallR X (.builtin "repr") rRepr := by
  intro pins s σ H xs us Q I r h
  obtain ⟨v, d, rfl, hd, fit, q⟩ := h
  obtain ⟨u, rfl, ru⟩ := vals1 r
  have fin : ∀ (h' : Heap) (t tk : Nat), (∀ b o, s.heap.get? b = some o → h'.get? b = some o) → EP X pins σ Q (.str d.shown t) { s with heap := h', toks := tk } :=
    fun h' t tk hk => ⟨.str d.shown, H, I.kept hk, ⟨t, rfl⟩, q⟩
  have dp := fit.deep
  have sz := fit.size
  have sw := fit.show1
  cases hd with
  | non =>
    cases ru
    rw [PyData.shown] at q
    exact PySem.P.repr_of_none ⟨.str _, H, I.tok _, ⟨_, rfl⟩, q⟩
  | bl b =>
    cases ru
    rw [PyData.shown] at q
    exact PySem.P.repr_of_bool ⟨.str _, H, I.tok _, ⟨_, by cases b <;> rfl⟩, q⟩
  | int i =>
    obtain ⟨t, rfl⟩ := ru
    rw [PyData.shown] at q
    exact PySem.P.repr_of_int (by simpa [PyData.showable] using sw) ⟨.str _, H, I.tok _, ⟨_, rfl⟩, q⟩
  | str x =>
    obtain ⟨t, rfl⟩ := ru
    rw [PyData.shown] at q sz
    exact PySem.P.repr_of_str ⟨.str _, H, I.tok _, ⟨_, rfl⟩, q⟩ sz
  | @lst a xs ds h t =>
    cases ru
    obtain ⟨_, its, n, rv, g⟩ := (show ObjOk X.prog X.w H s.heap a (.lst xs) from I.hok a _ h)
    have S : ShownAll X.prog X.w s.heap its ds := DtAll.shown I t rv
    obtain ⟨⟨as, ra⟩, sa⟩ := S
    rw [PyData.showable] at sw
    rw [PyData.depth] at dp
    have R : Reads s.heap (.ref a) (.list ds) (a :: as) := .list g rfl rfl (by simpa using ra)
    rw [PyData.shown] at sz
    obtain ⟨bs, m, k⟩ := sa sw fun t ht => Nat.le_trans (listText_mem_le ht) sz
    have no : a ∉ bs := not_mem_of_deeper R (by rw [PyData.depth]; omega) m
    refine call_repr_slot (by omega) ⟨_, g, rfl⟩ F.slot_list_repr.toG ?_
    cases its with
    | nil =>
      cases ra
      refine call_list_repr_empty ⟨_, g, rfl⟩ g rfl ?_
      refine ⟨_, _, rfl, ?_⟩
      have e : (PyData.list []).shown = ("[]" : Str) := by rw [PyData.shown, PyData.shownAll, listText_nil]
      rw [e] at fin
      exact fin s.heap _ _ fun _ _ z => z
    | cons x l =>
      refine call_list_reprK (s := s) g rfl rfl no (by simpa using k.length_eq) (fun i y e => k.item i y (by simpa using e)) hq (fun b _ => Clear.nil b) (show X.A.units + 1 + (PyData.depthAll ds + 1) < cLine by omega) (fun _ _ z => z) (fun h' t tk hk => ?_) sz
      refine ⟨_, _, rfl, ?_⟩
      have z := fin h' t tk hk
      rw [PyData.shown] at z
      exact z
  | @tup a xs ds h t =>
    cases ru
    obtain ⟨_, its, rv, o, g, c, n, e⟩ := (show ObjOk X.prog X.w H s.heap a (.tup xs) from I.hok a _ h)
    have S : ShownAll X.prog X.w s.heap its ds := DtAll.shown I t rv
    obtain ⟨⟨as, ra⟩, sa⟩ := S
    rw [PyData.showable] at sw
    rw [PyData.depth] at dp
    have R : Reads s.heap (.ref a) (.tuple ds) as := .tuple g c e (by simpa using ra)
    rw [PyData.shown] at sz
    obtain ⟨bs, m, k⟩ := sa sw fun t ht => Nat.le_trans (tupleText_mem_le ht) sz
    have no : a ∉ bs := not_mem_of_deeper R (by rw [PyData.depth]; omega) m
    refine call_repr_slot (by omega) ⟨_, g, c⟩ F.slot_tuple_repr ?_
    refine call_tuple_reprK (s := s) g c e no (by simpa using k) hq (fun b _ => Clear.nil b) (show X.A.units + 1 + (PyData.depthAll ds + 1) < cLine by omega) (fun _ _ z => z) (fun h' t tk hk => ?_) sz
    refine ⟨_, _, rfl, ?_⟩
    have z := fin h' t tk hk
    rw [PyData.shown] at z
    exact z
  | @dct a kvs ds h t =>
    cases ru
    obtain ⟨_, sys, us, kv, o, es, ep, g, ex, e, _, ps, _⟩ := (show ObjOk X.prog X.w H s.heap a (.dK kvs) from I.hok a _ h)
    obtain ⟨s1, s2⟩ := shown_pairs kv ps (fun i k v u q r => DtKv.shown I t i k v u q r) (DtKv.len t)
    obtain ⟨⟨as, ra⟩, sa⟩ := s1
    obtain ⟨⟨bs, rb⟩, sb⟩ := s2
    rw [PyData.showable] at sw
    rw [PyData.depth] at dp
    have R : Reads s.heap (.ref a) (.dict ds) (a :: as ++ bs) := .dict g ex.1 e ra rb
    have sz2 := sz
    rw [PyData.shown] at sz
    obtain ⟨w1, w2⟩ := PyData.showableKv_split ds sw
    obtain ⟨b1, m1, k1⟩ := sa w1 fun t ht => let ⟨p, hp, hl⟩ := PyData.shownKv_key_le ds t ht; Nat.le_trans hl (Nat.le_trans (dictText_mem_le hp) sz)
    obtain ⟨b2, m2, k2⟩ := sb w2 fun t ht => let ⟨p, hp, hl⟩ := PyData.shownKv_val_le ds t ht; Nat.le_trans hl (Nat.le_trans (dictText_mem_le hp) sz)
    have m := (m1.mono (PyData.depthAll_keys_le ds)).append (m2.mono (PyData.depthAll_vals_le ds))
    refine call_repr_slot (by omega) ⟨_, g, ex.1⟩ F.slot_dict_repr ?_
    refine call_dict_reprK (s := s) g ex.1 e sys (not_mem_of_deeper R (by rw [PyData.depth]; omega) m) (ReprEntriesK.of_two es.toList _ _ (k1.more_le (fun b hb => List.mem_append_left _ hb) (PyData.depthAll_keys_le ds)) (k2.more_le (fun b hb => List.mem_append_right _ hb) (PyData.depthAll_vals_le ds)))
      hq (fun b _ => Clear.nil b) (show X.A.units + 1 + (PyData.depthKv ds + 1) < cLine by omega) (fun _ _ z => z) (fun h' t tk hk => ?_) (by rw [← PyData.shownKv_eq]; exact sz)
    refine ⟨_, _, rfl, ?_⟩
    have z := fin h' t tk hk
    rw [PyData.shown, PyData.shownKv_eq] at z
    exact z
theorem rc_repr {H : Hp} {v : V} {d : PyData} (h : Dt H v d) (f : Fits d) : RC rRepr [v] H (.str d.shown) := fun H1 e Q q =>
  ⟨v, d, rfl, Dt.ex e h, f, q H1 (Ex.refl H1)⟩
end Cr
/-! Cr, part 4: zip of a text and a tuple; comprehensions over any walk. -/
namespace Cr
open PySem PySem.Spec PyProof.Rows L2 Evl

/-- zip of the text z and the tuple at b: new pairs -/
def ItzS (K : PySem.W.Frag) (z : Str) (b : Addr) : It where
  go := fun i H => ∃ (ys : List V) (c : Nat) (y : V), SqT K H b ys ∧ z.cps[i]? = some c ∧ ys[i]? = some y
  yld := fun i H v H' => ∃ T c y, v = .ref T ∧ H T = none ∧ H' = upd H T (.tup [.str ⟨#[c]⟩, y]) ∧ z.cps[i]? = some c ∧ ∀ ys, SqT K H b ys → ys[i]? = some y
  stop := fun i H => ∃ ys : List V, SqT K H b ys ∧ i ≤ z.cps.size ∧ i ≤ ys.length ∧ (i = z.cps.size ∨ i = ys.length)

theorem zipSep (I b : Nat) (h2 : b < I) : ZipSep2 (I + 4) (I + 2) (I + 3) I (I + 1) [I] [I + 1, b] := by
  constructor <;> (try simp) <;> (intro e; have e' : (_ : Nat) = _ := e; omega)

section
variable {prog : Program} {w : World} {A : Around} {E : Value → Shared → Prop} {s : Shared}
theorem next_zipS {z TI TO i1 i2 : Addr} {fp1 fp2 : List Addr} {n1 n2 i : Nat} {P1 P2 : Nat → Value → Prop} {St1 St2 : Nat → Heap → Prop} {a1 a2 : Value} {Q : Option Value → Shared → Prop}
    (S : ZipSep2 z TI TO i1 i2 fp1 fp2) (D1 : Draws prog w A.in1 i1 fp1 n1 P1 St1) (D2 : Draws prog w A.in1 i2 fp2 n2 P2 St2)
    (hz : IsZip s.heap z TI TO .none) (hTI : IsTupOf2 s.heap TI (.ref i1) (.ref i2)) (hTO : IsTupOf2 s.heap TO a1 a2) (st1 : St1 i s.heap) (st2 : St2 i s.heap) (h1 : i < n1) (h2 : i < n2)
    (hQ : ∀ x1 x2 h' tk, P1 i x1 → P2 i x2 → IsZip h' z TI TO (rawInt s.heap.objs.size) → IsTupOf2 h' TO x1 x2 → St1 (i + 1) h' → St2 (i + 1) h' → IsTupOf2 h' s.heap.objs.size x1 x2 →
      (∀ c o, c ≠ z → c ≠ TO → c ≠ i1 → c ≠ i2 → s.heap.get? c = some o → h'.get? c = some o) → Q (some (.ref s.heap.objs.size)) { s with heap := h', toks := tk }) :
    wpAny (model prog w) A (pyNext (.ref z)) Q E s := by
  have hT : s.TypeIs (.ref z) "zip" := ⟨_, hz, rfl⟩
  unfold pyNext
  refine wpAny_bind (wpAny_attempt (wpAny_callSpecial?_slot (name := Str.ofString "__next__") hT F.slot_zip_next (wpAny_call_entry F.slot_zip_next hT F.entry_zip_next ?_ (F.args_zip_next_1 _))))
  exact zipD2_next_item S D1 D2 hz hTI hTO st1 st2 h1 h2 fun x1 x2 h' tk p1 p2 g1 g2 g3 g4 g5 g6 g7 => wpAny_pure (hQ x1 x2 h' tk p1 p2 g1 g2 g3 g4 g5 g7)
theorem next_zipS_end {z TI TO i1 i2 : Addr} {fp1 fp2 : List Addr} {n1 n2 i : Nat} {P1 P2 : Nat → Value → Prop} {St1 St2 : Nat → Heap → Prop} {a1 a2 : Value} {Q : Option Value → Shared → Prop}
    (S : ZipSep2 z TI TO i1 i2 fp1 fp2) (D1 : Draws prog w A.in1 i1 fp1 n1 P1 St1) (D2 : Draws prog w A.in1 i2 fp2 n2 P2 St2)
    (hz : IsZip s.heap z TI TO .none) (hTI : IsTupOf2 s.heap TI (.ref i1) (.ref i2)) (hTO : IsTupOf2 s.heap TO a1 a2) (st1 : St1 i s.heap) (st2 : St2 i s.heap) (h1 : i ≤ n1) (h2 : i ≤ n2) (he : i = n1 ∨ i = n2)
    (hQ : ∀ h' tk, (∀ c o, c ≠ z → c ≠ TO → c ≠ i1 → c ≠ i2 → s.heap.get? c = some o → h'.get? c = some o) → Q none { s with heap := h', toks := tk }) :
    wpAny (model prog w) A (pyNext (.ref z)) Q E s := by
  have hT : s.TypeIs (.ref z) "zip" := ⟨_, hz, rfl⟩
  unfold pyNext
  refine wpAny_bind (wpAny_attempt (wpAny_callSpecial?_slot (name := Str.ofString "__next__") hT F.slot_zip_next (wpAny_call_entry F.slot_zip_next hT F.entry_zip_next ?_ (F.args_zip_next_1 _))))
  refine zipD2_next_end S D1 D2 hz hTI hTO st1 st2 h1 h2 he fun h' tk e hk hex => ?_
  obtain ⟨o, ho, hc⟩ := hex
  refine wpAny_bind (wpAny_isInstance (T := "StopIteration") (b := true) ⟨o, ho, hc⟩ isSubtype_stop ?_)
  exact wpAny_pure (hQ h' tk hk)
end

theorem turn_zipS {P : Program} {w : World} {K : PySem.W.Frag} {elts : List Expr} {kk : Nat} {tpos : Pos} {x : Str} {t : Tok} {b z TI TO i1 i2 : Addr} (D : ZipSep2 z TI TO i1 i2 [i1] [i2, b]) (hb2 : b ≠ i2) :
    Turn P w K (.Tuple elts kk tpos) (ItzS K x b) [z, TI, TO, i1, i2] z (fun i h => IsZip h z TI TO .none ∧ IsTupOf2 h TI (.ref i1) (.ref i2) ∧ (∃ u v, IsTupOf2 h TO u v) ∧ h.IsStrIter i1 (strIterType x) x t i ∧ h.IsTupleIter i2 b i) where
  mem := List.mem_cons_self ..
  obj := fun i h st c hc => by
    obtain ⟨hz, hTI, ⟨u, v, hTO⟩, ⟨o1, e1, _, d1⟩, ⟨o2, e2, _, d2⟩⟩ := st
    simp only [List.mem_cons, List.not_mem_nil, or_false] at hc
    rcases hc with rfl | rfl | rfl | rfl | rfl
    · exact ⟨_, hz, fun _ q => nomatch q⟩
    · exact ⟨_, hTI, fun _ q => nomatch q⟩
    · exact ⟨_, hTO, fun _ q => nomatch q⟩
    · exact ⟨o1, e1, fun _ q => by rw [d1] at q; cases q⟩
    · exact ⟨o2, e2, fun _ q => by rw [d2] at q; cases q⟩
  keep := fun i h h' st k => by
    obtain ⟨hz, hTI, ⟨u, v, hTO⟩, ⟨o1, e1, r1⟩, h2⟩ := st
    exact ⟨k z (by simp) _ hz, k TI (by simp) _ hTI, ⟨u, v, k TO (by simp) _ hTO⟩, ⟨o1, k i1 (by simp) o1 e1, r1⟩, h2.at fun o q => k i2 (by simp) o q⟩
  item := by
    intro X hP hw hK hc i pins s σ H E I hf st hg
    subst hP hw hK
    obtain ⟨hz, hTI, ⟨u0, v0, hTO⟩, h1, h2⟩ := st
    obtain ⟨ys, c, y, hqy, hx, hy⟩ := hg
    obtain ⟨its, rv, p, _⟩ := I.tuple hqy
    obtain ⟨u2, hu2, ru2⟩ := rv.get hy
    have hzl : z < s.heap.objs.size := Heap.lt_size hz
    have hi1 : i < x.cps.size := (Array.getElem?_eq_some_iff.mp hx).1
    have hi2 : i < its.toArray.size := by
      have := (List.getElem?_eq_some_iff.mp hu2).1
      simpa using this
    refine next_zipS D (Draws.text (A := X.A.in1) (I.ok.hd hc) i1 x t) (Draws.tuple (A := X.A.in1) (I.ok.hd hc) i2 b hb2 its.toArray) hz hTI hTO h1 ⟨h2, p⟩ hi1 hi2 ?_
    rintro x1 x2 h' tk ⟨c', u', hc', rfl⟩ p2 z' TO' h1' ⟨h2', _⟩ hT hk
    have ec : c' = c := Option.some.inj (hc'.symm.trans hx)
    have e2 : x2 = u2 := by
      have q : its.toArray[i]? = some u2 := by simpa using hu2
      exact Option.some.inj (p2.symm.trans q)
    subst ec e2
    refine ⟨_, rfl, wpAny_letOwnedTupleGo_zip (s := { s with heap := h', toks := tk }) z' fun h'' z'' sb => ?_⟩
    have hT2 : h''.get? s.heap.objs.size = some { cls := .type "tuple", data := .seq #[.str ⟨#[c']⟩ u', x2] } := (sb.2 _ (Nat.ne_of_gt hzl)).trans hT
    have new : ObjOk X.prog X.w (upd H s.heap.objs.size (.tup [.str ⟨#[c']⟩, y])) h'' s.heap.objs.size (.tup [.str ⟨#[c']⟩, y]) :=
      ⟨by show 2 ≤ sizeLine; decide, [.str ⟨#[c']⟩ u', x2], .cons ⟨u', rfl⟩ (.cons ru2 .nil), ⟨_, hT2, rfl, _, rfl⟩⟩
    have kept : ∀ d o, d ∉ [z, TI, TO, i1, i2] → s.heap.get? d = some o → h''.get? d = some o := fun d o hd q => by
      simp only [List.mem_cons, List.not_mem_nil, or_false, not_or] at hd
      exact (sb.2 d hd.1).trans (hk d o hd.1 hd.2.2.1 hd.2.2.2.1 hd.2.2.2.2 q)
    have I1 := I.turnedNew (t' := tk) (ch := [z, TI, TO, i1, i2]) kept hf (Nat.le_refl _) new
    obtain ⟨o1, e1, r1⟩ := h1'
    refine ⟨.ref s.heap.objs.size, _, I1, rfl, ⟨_, c', y, rfl, I.hok.fresh (Nat.le_refl _), rfl, hx, fun l hl => by rw [I.tuple_inj hl hqy]; exact hy⟩, ⟨z'', ?_, ⟨.str ⟨#[c']⟩ u', x2, ?_⟩, ?_, ?_⟩, fun d hd => ?_⟩
    · exact (sb.2 _ D.TIz).trans (hk _ _ D.TIz D.TITO D.TIi1 D.TIi2 hTI)
    · exact (sb.2 _ D.TOz).trans TO'
    · exact ⟨o1, (sb.2 _ D.zi1.symm).trans e1, r1⟩
    · exact h2'.at fun o q => (sb.2 _ D.zi2.symm).trans q
    · have hlt : d < s.heap.objs.size := by
        have hd' := hd
        simp only [List.mem_cons, List.not_mem_nil, or_false] at hd'
        rcases hd' with rfl | rfl | rfl | rfl | rfl
        · exact hzl
        · exact Heap.lt_size hTI
        · exact Heap.lt_size hTO
        · obtain ⟨_, e1, _⟩ := h1
          exact Heap.lt_size e1
        · obtain ⟨_, e2, _⟩ := h2
          exact Heap.lt_size e2
      rw [upd_ne (Nat.ne_of_lt hlt)]
      exact (hf d hd).1
  done := by
    intro X hP hw hK hc i pins s σ H E I hf st hg
    subst hP hw hK
    obtain ⟨hz, hTI, ⟨u0, v0, hTO⟩, h1, h2⟩ := st
    obtain ⟨ys, hqy, l1, l2, hend⟩ := hg
    obtain ⟨its, rv, p, _⟩ := I.tuple hqy
    have len := rv.length
    refine next_zipS_end D (Draws.text (A := X.A.in1) (I.ok.hd hc) i1 x t) (Draws.tuple (A := X.A.in1) (I.ok.hd hc) i2 b hb2 its.toArray) hz hTI hTO h1 ⟨h2, p⟩ l1 (by simp; omega) (by rcases hend with q | q; exact .inl q; exact .inr (by simp; omega)) ?_
    intro h' tk hk
    refine ⟨rfl, I.turnedL (t' := tk) (ch := [z, TI, TO, i1, i2]) (fun d o hd q => ?_) hf⟩
    simp only [List.mem_cons, List.not_mem_nil, or_false, not_or] at hd
    exact hk d o hd.1 hd.2.2.1 hd.2.2.2.1 hd.2.2.2.2 q
  self := fun A i s Q E st h => wpAny_pyIter_zip st.1 h

def iZipS (K : PySem.W.Frag) (ta : TA) : TI := fun σ H R => ta σ H fun vs H1 => ∃ x b ys, vs = [.str x, .ref b] ∧ SqT K H1 b ys ∧ R (ItzS K x b) H1
theorem pi_zipS {X : Cx} {e e2 : Expr} {ta : TA} {p pos tpos : Pos} {elts : List Expr} {kk : Nat} (hg : Gl X "zip") (hm : X.mg "zip" = none) (ha : PA X [e, e2] ta)
    (hs : starEach [e, e2] X.env = (false, eval e X.env) :: starEach [e2] X.env := by rfl) (hpl : (backTo pos (starEach [e2] X.env)).any (·.1) = false := by rfl) :
    PI X (.Tuple elts kk tpos) (.Call (.Name "zip" p) [e, e2] [] pos) (iZipS X.K ta) := by
  constructor
  intro pins s σ H R I h
  refine Call_ (ld_blt I hg hm PyProof.Rows.boot_zip (PyProof.Rows.callWith_type1 (thn (ha.run pos pins s σ H _ I h) ?_) hs hpl))
  rintro us s1 ⟨vs, H1, I1, r1, x, b, ys, rfl, hqy, q⟩
  obtain ⟨u1, u2, rfl, ⟨t, rfl⟩, r2⟩ := vals2 r1
  cases (show u2 = Value.ref b from r2)
  obtain ⟨its, rv, p2, _⟩ := I1.tuple hqy
  obtain ⟨o2, ho2, _⟩ := id p2
  have hb : b < s1.heap.objs.size := Heap.lt_size ho2
  refine zip_begins2 (begins_text x t) (begins_tuple b its.toArray) trivial p2 ?_
  intro h' hz hTI hTO g1 g2 hsz hk
  refine wpAny_pyIter_zip (s := { s1 with heap := h' }) hz ?_
  have I2 : Inv X pins σ H1 { s1 with heap := h' } := I1.kept (t' := s1.toks) hk
  refine ⟨s1.heap.objs.size + 4, [s1.heap.objs.size + 4, s1.heap.objs.size + 2, s1.heap.objs.size + 3, s1.heap.objs.size, s1.heap.objs.size + 1], _, _, H1, rfl, I2,
    turn_zipS (t := t) (zipSep s1.heap.objs.size b hb) (Nat.ne_of_lt (Nat.lt_succ_of_lt hb)), ⟨hz, hTI, ⟨_, _, hTO⟩, ⟨_, g1, rfl, rfl⟩, ⟨_, g2, rfl, rfl⟩⟩, fun c hc => ?_, q⟩
  have hle : s1.heap.objs.size ≤ c := by
    simp only [List.mem_cons, List.not_mem_nil, or_false] at hc
    rcases hc with e | e | e | e | e <;> rw [e] <;> first | exact Nat.le_add_right _ _ | exact Nat.le_refl _
  exact I1.fpOk hle (I1.hok.fresh hle)

theorem walk_zipS {K : PySem.W.Frag} {x : Str} {b : Addr} {ys : List V} {n : Nat} (hn : n = min x.cps.size ys.length) :
    Walk (ItzS K x b) n (fun H => SqT K H b ys) (YPair (fun i => (x.cps[i]?).map fun c => .str ⟨#[c]⟩) fun i => ys[i]?) where
  goes := fun i H hi h => ⟨ys, x.cps[i]'(by omega), ys[i]'(by omega), h, by simp [show i < x.cps.size by omega], by simp [show i < ys.length by omega]⟩
  stops := fun H h => ⟨ys, h, by omega, by omega, by omega⟩
  yields := fun i H v H' hi h q => by
    obtain ⟨T, c, y, rfl, hT, rfl, hc, hy⟩ := q
    exact ⟨T, .str ⟨#[c]⟩, y, rfl, hT, rfl, by simp [hc], hy ys h⟩
theorem walk_zipT {K : PySem.W.Frag} {a b : Addr} {xs ys : List V} {n : Nat} (hn : n = min xs.length ys.length) :
    Walk (RZ.ItzT K a b) n (fun H => SqT K H a xs ∧ SqT K H b ys) (YPair (fun i => xs[i]?) fun i => ys[i]?) where
  goes := fun i H hi h => ⟨xs, ys, xs[i]'(by omega), ys[i]'(by omega), h.1, h.2, by simp [show i < xs.length by omega], by simp [show i < ys.length by omega]⟩
  stops := fun H h => ⟨xs, ys, h.1, h.2, by omega⟩
  yields := fun i H v H' hi h q => by
    obtain ⟨T, x, y, rfl, hT, rfl, hx, hy⟩ := q
    exact ⟨T, x, y, rfl, hT, rfl, hx xs h.1, hy ys h.2⟩

/-- a comprehension over any walk, which may be one of new things -/
theorem el_lcW {wi : TI} {g : TG} {tt : TT} {te : TE} {vs : List Nat} {σ : L2.St} {H : Hp} {n : Nat} {Y : Nat → Hp → V → Hp → Prop}
    (f : Nat → Bool) (v : Nat → V) (hn : n ≤ 40000)
    (hi : ∀ H1, Ex H H1 → ∀ R : It → Hp → Prop, (∀ H2 (J : It) (G : Hp → Prop), Walk J n G Y → (∀ H3 H4, Ex H3 H4 → G H3 → G H4) → Ex H1 H2 → G H2 → R J H2) → wi σ H1 R)
    (hs : ∀ i x H1 H2, Ex H H1 → i < n → Y i H1 x H2 → Ex H1 H2 ∧ ∃ σ2, wipe σ2 vs = wipe σ vs ∧ (∀ R : L2.St → Hp → Prop, R σ2 H2 → g x (wipe σ vs) H2 R) ∧ EvT tt σ2 H2 (f i) ∧ (f i = true → Ev te σ2 H2 (v i))) :
    EvL (tLc wi g tt te vs) σ H (given n f v) := by
  intro H0 e Q q
  refine hi H0 e _ fun H1 J G w hG e1 g1 D hD => ?_
  refine lc_it w (Cw H1 f v D) ⟨hD, Ex.new hD, upd_same⟩ (fun i H2 _ p => hG H1 H2 p.2.1 g1) (fun i x H2 H3 hlt p y => ?_) (fun H2 p => q D H2 (fresh_back e1 p.1) (e1.trans p.2.1) p.2.2)
  obtain ⟨p1, p2, p3⟩ := p
  obtain ⟨e2, σ2, hw, hgo, ht, he⟩ := hs i x H2 H3 ((e.trans e1).trans p2) hlt y
  refine hgo _ ⟨hw, ht H3 (Ex.refl H3) _ fun H4 e4 => ?_⟩
  cases hf : f i with
  | true =>
    rw [if_pos rfl]
    refine he hf H4 e4 _ fun H5 e5 => ⟨given i f v, e5 D _ (e4 D _ (e2 D _ p3)), sz_lt (by have := given_len i f v; omega), p1, Ex.mut (((p2.trans e2).trans e4).trans e5) p1, ?_⟩
    rw [given_yes hf]
    exact upd_same
  | false =>
    rw [if_neg Bool.false_ne_true]
    refine ⟨p1, (p2.trans e2).trans e4, ?_⟩
    rw [given_no hf]
    exact e4 D _ (e2 D _ p3)
end Cr
/-! Cr, part 5: small data, promises of one datum, evaluations that serve many defs. -/
namespace Cr
open PySem PySem.Spec PyProof.Rows L2 Evl

mutual
/-- texts and sequences of moderate size -/
def sm : PyData → Bool
  | .none | .bool _ | .int _ => true
  | .str x => decide (x.length ≤ 1000)
  | .list xs | .tuple xs => decide (xs.length ≤ 1000) && smAll xs
  | .dict _ => true
def smAll : List PyData → Bool
  | [] => true
  | x :: xs => sm x && smAll xs
end
theorem smAll_get : ∀ {ds : List PyData} {i : Nat} {d : PyData}, smAll ds = true → ds[i]? = some d → sm d = true
  | [], _, _, _, h => by simp at h
  | x :: xs, 0, d, h, e => by
    simp at e; subst e
    rw [smAll, Bool.and_eq_true] at h
    exact h.1
  | x :: xs, i + 1, d, h, e => by
    rw [smAll, Bool.and_eq_true] at h
    exact smAll_get h.2 (by simpa using e)

/-- a def that answers a datum with a bool -/
def spD (f : PyData → Bool) : Sp := fun vs H Q _ => ∃ v d, vs = [v] ∧ Dt H v d ∧ sm d = true ∧ ∀ H', Ex H H' → Q (.bl (f d)) H'
theorem spD_len {f : PyData → Bool} : ∀ vs H Q E, spD f vs H Q E → vs.length = 1 := fun vs H Q E h => by
  obtain ⟨v, d, rfl, _⟩ := h
  rfl
theorem spv_D {f : PyData → Bool} {H : Hp} {v : V} {d : PyData} (h : Dt H v d) (s : sm d = true) : SpV (spD f) [v] H (.bl (f d)) := fun H1 e Q q E =>
  ⟨v, d, rfl, Dt.ex e h, s, q⟩

section
variable {K : PySem.W.Frag} {σ : L2.St} {H : Hp} {ta tb tc te : TE} {x y z w v : V} {r r' : R2}
theorem ev_chain {k k' : Bool} (ha : Ev ta σ H x) (hb : Ev tb σ H y) (hr : RV r x y H (.bl k)) (hc : k = true → Ev tc σ H w) (hr' : k = true → RV r' y w H (.bl k')) : Ev (tChain r r' ta tb tc) σ H (.bl (k && k')) := fun H1 e Q q =>
  ha H1 e _ fun H2 e2 => hb H2 (e.trans e2) _ fun H3 e3 => hr H3 ((e.trans e2).trans e3) _ fun H4 e4 => ⟨k, rfl, by
    have e14 := (e2.trans e3).trans e4
    cases k with
    | true =>
      rw [if_pos rfl]
      exact hc rfl H4 (e.trans e14) _ fun H5 e5 => hr' rfl H5 ((e.trans e14).trans e5) Q fun H6 e6 => q H6 ((e14.trans e5).trans e6)
    | false =>
      rw [if_neg Bool.false_ne_true]
      exact q H4 e14⟩
theorem ev_all {bs : List Bool} (h : EvL te σ H (bs.map V.bl)) : Ev (tCB (rAll K) (tCons te tNil)) σ H (.bl (bs.all id)) := fun H1 e Q q =>
  h H1 e _ fun p H2 _ e2 hp => ⟨p, bs, rfl, sq_of hp, q H2 e2⟩
/-- len of a text, of a tracked tuple -/
theorem rc_lenS {s : Str} (h : s.length ≤ 1000) : RC (fun xs H Q => ∃ z, xs = [V.str z] ∧ z.length ≤ sizeLine ∧ Q (.int z.length) H) [.str s] H (.int (s.length : Int)) := fun H1 _ Q q =>
  ⟨s, rfl, sz_of (by omega), q H1 (Ex.refl H1)⟩
theorem rc_lenT {a : Addr} {xs : List V} (h : SqT K H a xs) : RC (fun vs H Q => ∃ p ys, vs = [V.ref p] ∧ (SqL K H p ys ∨ SqT K H p ys) ∧ Q (.int ys.length) H) [.ref a] H (.int (xs.length : Int)) := fun H1 e Q q =>
  ⟨a, xs, rfl, .inr (ex_t e h), q H1 (Ex.refl H1)⟩
theorem rc_lenL {a : Addr} {xs : List V} (h : SqL K H a xs) : RC (fun vs H Q => ∃ p ys, vs = [V.ref p] ∧ (SqL K H p ys ∨ SqT K H p ys) ∧ Q (.int ys.length) H) [.ref a] H (.int (xs.length : Int)) := fun H1 e Q q =>
  ⟨a, xs, rfl, .inl (ex_l e h), q H1 (Ex.refl H1)⟩
theorem cut_tail (v : V) (xs : List V) : cutV (v :: xs) (some 1) none = xs := by
  unfold cutV
  rw [show HT.sIx (v :: xs).length 0 (some 1) = min 1 (v :: xs).length from HT.sIx_nat _ 0 1, HT.sIx_none, show min 1 (v :: xs).length = 1 by rw [List.length_cons]; omega]
  show List.take ((v :: xs).length - 1) xs = xs
  rw [List.length_cons, Nat.add_sub_cancel]
  exact List.take_length
/-- t[1:] of a tuple that is not empty: a new tuple -/
theorem eu_tail {a : Addr} {v : V} {xs : List V} (h : Ev te σ H (.ref a)) (ht : SqT K H a (v :: xs)) : EvU (tSl (rSlT K) te (tPart (tC (.int 1))) tNoPart) σ H xs := fun H1 e Q q =>
  h H1 e _ fun H2 e2 => ⟨1, rfl, a, v :: xs, rfl, ex_t (e.trans e2) ht, by
    rw [show HT.sIx (v :: xs).length 0 (some 1) = min 1 (v :: xs).length from HT.sIx_nat _ 0 1]
    intro z
    have := z.1
    rw [List.length_cons] at this
    omega, fun p hp => by
    rw [cut_tail]
    exact q p _ (fresh_back e2 hp) (e2.trans (Ex.new hp)) upd_same⟩
end

/-! ### texts -/
def rLeS : R2 := fun x y H Q => ∃ i j, x = .str i ∧ y = .str j ∧ Q (.bl (!decide (j.cps.toList < i.cps.toList))) H
theorem op_leS {X : Cx} : OpR X (compareOp .LtE) rLeS := op_le_str
theorem rv_leS {i j : Str} {H : Hp} : RV rLeS (.str i) (.str j) H (.bl (!decide (j.cps.toList < i.cps.toList))) := fun H1 _ Q q => ⟨i, j, rfl, rfl, q H1 (Ex.refl H1)⟩
theorem one_lt (a b : Nat) : decide ([a] < [b]) = decide (a < b) := by
  by_cases h : a < b
  · rw [decide_eq_true h, decide_eq_true (List.cons_lt_cons_iff.mpr (.inl h))]
  · rw [decide_eq_false h, decide_eq_false]
    intro z
    rcases List.cons_lt_cons_iff.mp z with q | ⟨_, q⟩
    · exact h q
    · exact absurd q (by simp)
def isLow (c : Nat) : Bool := decide (97 ≤ c) && decide (c ≤ 122)
theorem given_all (n : Nat) (v : Nat → V) : given n (fun _ => true) v = (List.range n).map v := by
  unfold given
  rw [List.filter_eq_self.mpr (fun _ _ => rfl)]
theorem all_range {α : Type} (l : List α) (d : α) (p : α → Bool) : ((List.range l.length).map fun i => p (l.getD i d)).all id = l.all p := by
  rw [List.all_map]
  have e : ∀ n, n ≤ l.length → ((List.range n).all fun i => p (l.getD i d)) = (l.take n).all p := by
    intro n
    induction n with
    | zero => intro _; simp
    | succ n ih =>
      intro h
      rw [List.range_succ, List.all_append, ih (by omega), List.take_add_one, List.all_append]
      congr 1
      rw [List.getElem?_eq_getElem (by omega)]
      simp [List.getD, List.getElem?_eq_getElem (show n < l.length by omega)]
  have h := e l.length (Nat.le_refl _)
  rw [List.take_length] at h
  exact h
end Cr
/-! the program's own defs -/
namespace Cr
open PySem PySem.Spec PyProof.Rows L2 Evl
def topS (i : Nat) : Stmt := PySem.Challenge.pw_cycleready_k11_words_and_steps.main.body.getD i (.Pass ⟨0, 0, 0, 0⟩)
abbrev sIsInteger : Stmt := topS 3
abbrev sIsCount : Stmt := topS 4
abbrev sIsName : Stmt := topS 5
abbrev sIsVariable : Stmt := topS 6
abbrev sIsItem : Stmt := topS 10
abbrev sIsStep : Stmt := topS 11
abbrev sIsPlain : Stmt := topS 12
theorem scIsInteger : FnScope ["value"] ["value"] (defScope sIsInteger) := ⟨rfl, rfl, rfl, by decide +kernel, rfl, by decide +kernel, by decide +kernel⟩
theorem scIsCount : FnScope ["value"] ["value"] (defScope sIsCount) := ⟨rfl, rfl, rfl, by decide +kernel, rfl, by decide +kernel, by decide +kernel⟩
theorem scIsName : FnScope ["value", "letter"] ["value"] (defScope sIsName) := ⟨rfl, rfl, rfl, by decide +kernel, rfl, by decide +kernel, by decide +kernel⟩
theorem scIsVariable : FnScope ["value"] ["value"] (defScope sIsVariable) := ⟨rfl, rfl, rfl, by decide +kernel, rfl, by decide +kernel, by decide +kernel⟩
theorem scIsItem : FnScope ["value", "kind"] ["value", "kind"] (defScope sIsItem) := ⟨rfl, rfl, rfl, by decide +kernel, rfl, by decide +kernel, by decide +kernel⟩
theorem scIsStep : FnScope ["value", "shape", "item", "kind"] ["value"] (defScope sIsStep) := ⟨rfl, rfl, rfl, by decide +kernel, rfl, by decide +kernel, by decide +kernel⟩
theorem scIsPlain : FnScope ["step"] ["step"] (defScope sIsPlain) := ⟨rfl, rfl, rfl, by decide +kernel, rfl, by decide +kernel, by decide +kernel⟩

/-- the built-ins are the built-ins -/
structure Blt (mg : Str → Option Value) : Prop where
  isi : mg "isinstance" = none
  int : mg "int" = none
  bool : mg "bool" = none
  str : mg "str" = none
  tuple : mg "tuple" = none
  list : mg "list" = none
  len : mg "len" = none
  all : mg "all" = none
  zip : mg "zip" = none
  repr : mg "repr" = none
  range : mg "range" = none
  max : mg "max" = none
  min : mg "min" = none
  abs : mg "abs" = none
  divmod : mg "divmod" = none
theorem bIsi : bootBuiltins "isinstance" = some (.builtin "isinstance") := by decide +kernel
theorem bLen : bootBuiltins "len" = some (.builtin "len") := by decide +kernel
theorem bAll : bootBuiltins "all" = some (.builtin "all") := by decide +kernel
theorem bRepr : bootBuiltins "repr" = some (.builtin "repr") := by decide +kernel
theorem bInt : bootBuiltins "int" = some (.type "int") := by decide +kernel
theorem bBool : bootBuiltins "bool" = some (.type "bool") := by decide +kernel
theorem bStr : bootBuiltins "str" = some (.type "str") := by decide +kernel
theorem bTuple : bootBuiltins "tuple" = some (.type "tuple") := by decide +kernel
theorem bList : bootBuiltins "list" = some (.type "list") := by decide +kernel

/-! ### what they say -/
def isInteger (d : PyData) : Bool := isT "int" d && !isT "bool" d
def atLeast (n : Int) : PyData → Bool
  | .int i => decide (n ≤ i)
  | _ => false
def isCount (d : PyData) : Bool := isInteger d && atLeast 0 d
def isNameS (x : Str) : Bool := (decide ((1 : Int) ≤ x.length) && decide ((x.length : Int) ≤ 8)) && x.cps.toList.all isLow
def isName : PyData → Bool
  | .str x => isNameS x
  | _ => false
def vars4 : List Str := ["a", "b", "c", "d"]
def isVar : PyData → Bool
  | .str x => vars4.any fun y => y == x
  | _ => false
theorem isInteger_int (i : Int) : isInteger (.int i) = true := rfl
section
variable {P : Program} {w : World} {K : PySem.W.Frag} {mg : Str → Option Value} {base : Heap}
theorem memI : "int" ∈ ["int", "bool", "str", "list", "tuple", "dict"] := by decide
theorem memB : "bool" ∈ ["int", "bool", "str", "list", "tuple", "dict"] := by decide
theorem memS : "str" ∈ ["int", "bool", "str", "list", "tuple", "dict"] := by decide
theorem memT : "tuple" ∈ ["int", "bool", "str", "list", "tuple", "dict"] := by decide

theorem ok_isInteger {f : Addr} {fd : FuncData} {k : Nat} (F : Fun K "is_integer" "is_integer" sIsInteger f fd) (B : Blt mg) : FnG P w K mg base CX0 (k + 1) f fd ["value"] (spD isInteger) := by
  refine okG F scIsInteger spD_len (fun cdv A outer s H vs Q E hq hr h => ?_)
  obtain ⟨v, d, rfl, hd, _, q⟩ := h
  refine ⟨_, pss_one (ps_ret (pe_and (pe_callB call_isi (by rfl) B.isi bIsi (pa_cons (pv 0) (pa_cons (pe_bltn (v := .ty "int") (by rfl) B.int bInt rfl) pa_nil)))
    (pe_one (pe_not (pe_callB call_isi (by rfl) B.isi bIsi (pa_cons (pv 0) (pa_cons (pe_bltn (v := .ty "bool") (by rfl) B.bool bBool rfl) pa_nil))))))), ?_⟩
  refine s_ret (ev_andV (ev_cb (ea_cons (ev_var rfl) (ea_cons ev_c ea_nil)) (rc_isi hd memI)) fun _ => ev_notV (ev_cb (ea_cons (ev_var rfl) (ea_cons ev_c ea_nil)) (rc_isi hd memB))) q

theorem ok_isCount {f fI : Addr} {fd fdI : FuncData} {k : Nat} (F : Fun K "is_count" "is_count" sIsCount f fd) (GI : FnG P w K mg base CX0 k fI fdI ["value"] (spD isInteger)) (bI : Binds K fdI ["value"] []) (kI : PySem.W.keepIn K (.ref fI) = true)
    (gI : mg "is_integer" = some (.ref fI)) : FnG P w K mg base CX0 (k + 1) f fd ["value"] (spD isCount) := by
  refine okG F scIsCount spD_len (fun cdv A outer s H vs Q E hq hr h => ?_)
  obtain ⟨v, d, rfl, hd, hs, q⟩ := h
  refine ⟨_, pss_one (ps_ret (pe_and (callG GI hq hr (by rfl) gI kI bI .nil pass0 (pa_cons (pv 0) pa_nil)) (pe_one (pe_cmpR op_ge (pv 0) pe_int (nomark _))))), ?_⟩
  refine s_ret (ev_andV (ev_call (ea_cons (ev_var rfl) ea_nil) (spv_D hd hs)) fun hi => ?_) q
  cases hd with
  | int i => exact ev_op (ev_var rfl) ev_c rv_I0
  | _ => exact absurd hi (by first | decide | (revert hi; simp [isInteger, isT, isTs, tyT]))

theorem ok_isName {f : Addr} {fd : FuncData} {k : Nat} (F : Fun K "is_name" "is_name" sIsName f fd) (B : Blt mg) {tL : Tok} (gL : mg "LONGEST_NAME" = some (.int 8 tL)) : FnG P w K mg base CX0 (k + 1) f fd ["value"] (spD isName) := by
  refine okG F scIsName spD_len (fun cdv A outer s H vs Q E hq hr h => ?_)
  obtain ⟨v, d, rfl, hd, hs, q⟩ := h
  refine ⟨_, pss_cons (ps_if (PW.pt (pw_or (pt_not (pt_val (pe_callB call_isi (by rfl) B.isi bIsi (pa_cons (pv 0) (pa_cons (pe_bltn (v := .ty "str") (by rfl) B.str bStr rfl) pa_nil)))))
      (pw_or1 (pt_not (pt_chain op_le op_le pe_int (pe_callB call_len_str (by rfl) B.len bLen (pa_cons (pv 0) pa_nil)) (pe_glob (v := .int 8) (by rfl) gL ⟨_, rfl⟩))))))
      (pss_one (ps_ret pe_bl)) pss_nil)
    (pss_one (ps_ret (pe_callB (cr_all rfl) (by rfl) B.all bAll (pa_cons
      (pe_lc (own := [("letter", 1)]) (g := gName 1) (tt := tYes) rfl scIsName.nd (pi_str (pv 0)) (blkOk_by (own := [("letter", 1)]) (N := ["value", "letter"]) (sc := defScope sIsName) (by decide +kernel))
        (fun _ _ _ _ _ => pg_name (i := 1) scIsName.nd rfl (Or.inl rfl)) (fun _ _ _ _ _ => pts_nil) (fun _ _ _ _ _ => pe_chain op_leS op_leS pe_str (pv 1) pe_str)) pa_nil)))), ?_⟩
  have isS := rc_isi (K := K) hd memS
  cases hd with
  | str x =>
    have hx : x.length ≤ 1000 := by
      rw [sm] at hs
      exact of_decide_eq_true hs
    refine q_when (et_or (et_not (et_B (ev_cb (ea_cons (ev_var rfl) (ea_cons ev_c ea_nil)) isS))) fun _ => et_not (et_test (ev_chain ev_c (ev_cb (ea_cons (ev_var rfl) ea_nil) (rc_lenS hx)) rv_I0 (fun _ => ev_c) fun _ => rv_I0))) (fun hb H1 e1 => ?_) (fun hb H1 e1 => ?_)
    · refine s_ret ev_c fun H2 e2 => ?_
      have z : isName (.str x) = false := by
        have hb' : (!(isT "str" (.str x)) || !(decide ((1 : Int) ≤ x.length) && decide ((x.length : Int) ≤ 8))) = true := hb
        have e : isT "str" (.str x) = true := rfl
        rw [e, Bool.not_true, Bool.false_or] at hb'
        show ((decide ((1 : Int) ≤ x.length) && decide ((x.length : Int) ≤ 8)) && x.cps.toList.all isLow) = false
        rw [Bool.not_eq_true'] at hb'
        rw [hb', Bool.false_and]
      have g := q H2 (e1.trans e2)
      rw [z] at g
      exact g
    · have ch : ∀ c : Nat, (!decide ((⟨#[c]⟩ : Str).cps.toList < (("a" : Str)).cps.toList) && !decide ((("z" : Str)).cps.toList < (⟨#[c]⟩ : Str).cps.toList)) = isLow c := fun c => by
        have ea : (("a" : Str)).cps.toList = [97] := by decide +kernel
        have ez : (("z" : Str)).cps.toList = [122] := by decide +kernel
        have ec : (⟨#[c]⟩ : Str).cps.toList = [c] := rfl
        rw [ea, ez, ec, one_lt, one_lt]
        unfold isLow
        congr 1
        · by_cases hc : 97 ≤ c
          · rw [decide_eq_true hc, decide_eq_false (show ¬ c < 97 by omega)]; rfl
          · rw [decide_eq_false hc, decide_eq_true (show c < 97 by omega)]; rfl
        · by_cases hc : c ≤ 122
          · rw [decide_eq_true hc, decide_eq_false (show ¬ 122 < c by omega)]; rfl
          · rw [decide_eq_false hc, decide_eq_true (show 122 < c by omega)]; rfl
      have lc := el_lcW (wi := iStr (tVar 0)) (g := gName 1) (tt := tYes) (te := tChain rLeS rLeS (tC (.str "a")) (tVar 1) (tC (.str "z"))) (vs := [1]) (σ := start ["value", "letter"] [V.str x]) (H := H1) (fun _ => true) (fun i => .bl (isLow (x.cps.toList.getD i 0))) (Y := fun i H v H' => H' = H ∧ ∃ c, x.cps[i]? = some c ∧ v = .str ⟨#[c]⟩) (n := x.cps.size) (by have : x.cps.size = x.length := rfl; omega)
        (fun H2 e R r => ⟨.str x, rfl, x, rfl, r H2 _ _ walk_str (fun _ _ _ z => z) (Ex.refl H2) trivial⟩) (fun i y H2 H3 e hi hy => by
          obtain ⟨rfl, c, hc, rfl⟩ := hy
          refine ⟨Ex.refl _, [some (.str x), some (.str ⟨#[c]⟩)], rfl, fun R r => r, fun H4 _ Q q => q H4 (Ex.refl H4), fun _ => ?_⟩
          have ec : x.cps.toList.getD i 0 = c := by
            rw [List.getD, Array.getElem?_toList, hc]; rfl
          show Ev _ _ _ (.bl (isLow (x.cps.toList.getD i 0)))
          rw [ec, ← ch c]
          exact ev_chain ev_c (ev_var rfl) rv_leS (fun _ => ev_c) fun _ => rv_leS)
      have e1' : given x.cps.size (fun _ => true) (fun i => V.bl (isLow (x.cps.toList.getD i 0))) = ((List.range x.cps.size).map fun i => isLow (x.cps.toList.getD i 0)).map V.bl := by
        rw [given_all, List.map_map]; rfl
      rw [e1'] at lc
      refine s_ret (ev_all lc) fun H2 e2 => ?_
      have hb' : (!(isT "str" (.str x)) || !(decide ((1 : Int) ≤ x.length) && decide ((x.length : Int) ≤ 8))) = false := hb
      have e : isT "str" (.str x) = true := rfl
      rw [e, Bool.not_true, Bool.false_or, Bool.not_eq_false'] at hb'
      have z : isName (.str x) = ((List.range x.cps.size).map fun i => isLow (x.cps.toList.getD i 0)).all id := by
        show ((decide ((1 : Int) ≤ x.length) && decide ((x.length : Int) ≤ 8)) && x.cps.toList.all isLow) = _
        rw [hb', Bool.true_and, ← all_range x.cps.toList 0 isLow]
        rfl
      have g := q H2 (e1.trans e2)
      rw [z] at g
      exact g
  | _ =>
    refine q_when (b := true) (et_is (et_or (et_not (et_B (ev_cb (ea_cons (ev_var rfl) (ea_cons ev_c ea_nil)) isS))) (b := false) fun z => absurd z (by first | decide | simp [isT, isTs, tyT])) (by first | decide | simp [isT, isTs, tyT])) (fun _ H1 e1 => s_ret ev_c fun H2 e2 => q H2 (e1.trans e2)) (fun z => absurd z (by decide))
end
end Cr
namespace Cr
open PySem PySem.Spec PyProof.Rows L2 Evl
/-- a tuple of the module's top -/
def KTup (K : PySem.W.Frag) (a : Addr) (xs : List V) : Prop := ∃ (o : Obj) (its : Array Value) (n : Nat), K.lookup a = some o ∧ o.cls = .type "tuple" ∧ o.data = .seq its n ∧ its.size ≤ sizeLine ∧ Vals xs its.toList
theorem KTup.sq {K : PySem.W.Frag} {H : Hp} {a : Addr} {xs : List V} (h : KTup K a xs) : SqT K H a xs := .inr h
/-! ### the mirror -/
def isItem (d : PyData) (k : Str) : Bool :=
  if k = "variable" then isVar d
  else if k = "integer" then isInteger d
  else if k = "length" then isInteger d && atLeast 1 d
  else isName d
def shapeOf (z : Str) : Option (List Str) :=
  if z = "set" then some ["variable", "integer"] else if z = "add" then some ["variable", "variable"] else if z = "skip" then some ["variable", "length"]
  else if z = "export" then some ["name", "variable"] else if z = "read" then some ["variable", "module", "name"] else if z = "need" then some ["module"]
  else if z = "try" then some ["module", "variable"] else if z = "fail" then some [] else none
def stepItems (ds : List PyData) (ks : List Str) : Bool := ((List.range ks.length).map fun i => isItem (ds.getD i .none) (ks.getD i "")).all id
def isStep : PyData → Bool
  | .tuple (.str z :: ds) => (match shapeOf z with
    | some ks => decide (ds.length = ks.length) && stepItems ds ks
    | none => false)
  | _ => false
def plain3 : List Str := ["set", "add", "skip"]
def isPlain (d : PyData) : Bool := isStep d && (match d with
  | .tuple (.str z :: _) => plain3.any fun y => y == z
  | _ => false)
/-- the table of shapes, as the top left it -/
structure Shapes (K : PySem.W.Frag) (w : World) (dS : Addr) (es : Array DictEntry) (n : Nat) : Prop where
  kd : KDict K w dS es n
  no : ∀ z, shapeOf z = none → PySem.W.nsIn K dS z = some none
  yes : ∀ z ks, shapeOf z = some ks → ∃ a, PySem.W.nsIn K dS z = some (some (.ref a)) ∧ KTup K a (ks.map V.str)
theorem inV_strs (z : Str) (l : List Str) : inV (.str z) (l.map V.str) = l.any fun y => y == z := by
  unfold inV
  rw [List.any_map]
  rfl
theorem flat_strs (l : List Str) : (l.map V.str).all flatV = true := by
  rw [List.all_map]
  exact List.all_eq_true.mpr fun _ _ => rfl
/-- is_item's promise -/
def spItem : Sp := fun vs H Q _ => ∃ v d k, vs = [v, .str k] ∧ Dt H v d ∧ sm d = true ∧ ∀ H', Ex H H' → Q (.bl (isItem d k)) H'
section
variable {P : Program} {w : World} {K : PySem.W.Frag} {mg : Str → Option Value} {base : Heap}
theorem ok_isVar {f aV : Addr} {fd : FuncData} {k : Nat} (F : Fun K "is_variable" "is_variable" sIsVariable f fd) (B : Blt mg) (gV : mg "VARIABLES" = some (.ref aV)) (tV : KTup K aV (vars4.map V.str)) : FnG P w K mg base CX0 (k + 1) f fd ["value"] (spD isVar) := by
  refine okG F scIsVariable spD_len (fun cdv A outer s H vs Q E hq hr h => ?_)
  obtain ⟨v, d, rfl, hd, _, q⟩ := h
  refine ⟨_, pss_one (ps_ret (pe_and (pe_callB call_isi (by rfl) B.isi bIsi (pa_cons (pv 0) (pa_cons (pe_bltn (v := .ty "str") (by rfl) B.str bStr rfl) pa_nil)))
    (pe_one (pe_cmpR op_in_seq (pv 0) (pe_glob (v := .ref aV) (by rfl) gV rfl) (by rfl))))), ?_⟩
  have isS := rc_isi (K := K) hd memS
  cases hd with
  | str x =>
    refine s_ret (v := .bl (isVar (.str x))) (ev_is (ev_andV (b := inV (.str x) (vars4.map V.str)) (ev_cb (ea_cons (ev_var rfl) (ea_cons ev_c ea_nil)) isS) fun _ => ev_op (ev_var rfl) ev_c (rv_isT tV.sq rfl (flat_strs _))) ?_) q
    rw [inV_strs]
    rfl
  | _ => exact s_ret (ev_andV (b := false) (ev_cb (ea_cons (ev_var rfl) (ea_cons ev_c ea_nil)) isS) fun z => absurd z (by first | decide | simp [isT, isTs, tyT])) (by first | exact q | simpa [isT, isTs, tyT, isVar] using q)

theorem ok_isItem {f fI fV fN : Addr} {fd fdI fdV fdN : FuncData} {k : Nat} (F : Fun K "is_item" "is_item" sIsItem f fd)
    (GI : FnG P w K mg base CX0 k fI fdI ["value"] (spD isInteger)) (bI : Binds K fdI ["value"] []) (kI : PySem.W.keepIn K (.ref fI) = true) (gI : mg "is_integer" = some (.ref fI))
    (GV : FnG P w K mg base CX0 k fV fdV ["value"] (spD isVar)) (bV : Binds K fdV ["value"] []) (kV : PySem.W.keepIn K (.ref fV) = true) (gV : mg "is_variable" = some (.ref fV))
    (GN : FnG P w K mg base CX0 k fN fdN ["value"] (spD isName)) (bN : Binds K fdN ["value"] []) (kN : PySem.W.keepIn K (.ref fN) = true) (gN : mg "is_name" = some (.ref fN)) :
    FnG P w K mg base CX0 (k + 1) f fd ["value", "kind"] spItem := by
  refine okG F scIsItem (fun vs H Q E h => by obtain ⟨_, _, _, rfl, _⟩ := h; rfl) (fun cdv A outer s H vs Q E hq hr h => ?_)
  obtain ⟨v, d, kd, rfl, hd, hs, q⟩ := h
  refine ⟨_, pss_cons (ps_if (pt_cmpR op_eq (pv 1) pe_str (nomark _)) (pss_one (ps_ret (callG GV hq hr (by rfl) gV kV bV .nil pass0 (pa_cons (pv 0) pa_nil)))) pss_nil)
    (pss_cons (ps_if (pt_cmpR op_eq (pv 1) pe_str (nomark _)) (pss_one (ps_ret (callG GI hq hr (by rfl) gI kI bI .nil pass0 (pa_cons (pv 0) pa_nil)))) pss_nil)
    (pss_cons (ps_if (pt_cmpR op_eq (pv 1) pe_str (nomark _)) (pss_one (ps_ret (pe_and (callG GI hq hr (by rfl) gI kI bI .nil pass0 (pa_cons (pv 0) pa_nil)) (pe_one (pe_cmpR op_ge (pv 0) pe_int (nomark _)))))) pss_nil)
    (pss_one (ps_ret (callG GN hq hr (by rfl) gN kN bN .nil pass0 (pa_cons (pv 0) pa_nil)))))), ?_⟩
  have ne : ∀ {z : Str}, decide (V.str kd = V.str z) = false → ¬ kd = z := fun h e => of_decide_eq_false h (by rw [e])
  have ye : ∀ {z : Str}, decide (V.str kd = V.str z) = true → kd = z := fun h => V.str.inj (of_decide_eq_true h)
  refine q_when (et_test (ev_op (ev_var rfl) ev_c (rv_eq rfl))) (fun hb H1 e1 => ?_) (fun hb H1 e1 => ?_)
  · refine s_ret (ev_call (ea_cons (ev_var rfl) ea_nil) (spv_D (Dt.ex e1 hd) hs)) fun H2 e2 => ?_
    have g := q H2 (e1.trans e2)
    unfold isItem at g
    rw [if_pos (ye hb)] at g
    exact g
  refine q_when (et_test (ev_op (ev_var rfl) ev_c (rv_eq rfl))) (fun hb2 H2 e2 => ?_) (fun hb2 H2 e2 => ?_)
  · refine s_ret (ev_call (ea_cons (ev_var rfl) ea_nil) (spv_D (Dt.ex (e1.trans e2) hd) hs)) fun H3 e3 => ?_
    have g := q H3 ((e1.trans e2).trans e3)
    unfold isItem at g
    rw [if_neg (ne hb), if_pos (ye hb2)] at g
    exact g
  refine q_when (et_test (ev_op (ev_var rfl) ev_c (rv_eq rfl))) (fun hb3 H3 e3 => ?_) (fun hb3 H3 e3 => ?_)
  · have hd3 := Dt.ex ((e1.trans e2).trans e3) hd
    refine s_ret (v := .bl (isInteger d && atLeast 1 d)) (ev_andV (ev_call (ea_cons (ev_var rfl) ea_nil) (spv_D hd3 hs)) fun hi => ?_) fun H4 e4 => ?_
    · cases hd3 with
      | int i => exact ev_op (ev_var rfl) ev_c rv_I0
      | _ => exact absurd hi (by first | decide | (revert hi; simp [isInteger, isT, isTs, tyT]))
    · have g := q H4 (((e1.trans e2).trans e3).trans e4)
      unfold isItem at g
      rw [if_neg (ne hb), if_neg (ne hb2), if_pos (ye hb3)] at g
      exact g
  · refine s_ret (ev_call (ea_cons (ev_var rfl) ea_nil) (spv_D (Dt.ex ((e1.trans e2).trans e3) hd) hs)) fun H4 e4 => ?_
    have g := q H4 (((e1.trans e2).trans e3).trans e4)
    unfold isItem at g
    rw [if_neg (ne hb), if_neg (ne hb2), if_neg (ne hb3)] at g
    exact g
end
end Cr
namespace Cr
open PySem PySem.Spec PyProof.Rows L2 Evl
section
variable {K : PySem.W.Frag} {H : Hp}
def rNotKd (K : PySem.W.Frag) (d : Addr) : R2 := fun x y H Q => ∃ (z : Str) (r : Option Value), x = .str z ∧ y = .ref d ∧ PySem.W.nsIn K d z = some r ∧ Q (.bl (!r.isSome)) H
theorem op_notKd {X : Cx} {d : Addr} {es : Array DictEntry} {n : Nat} (D : KDict X.K X.w d es n) : OpR X (compareOp .NotIn) (rNotKd X.K d) := op_notIn_kd D
theorem dt_tup {a : Addr} {ds : List PyData} (h : Dt H (.ref a) (.tuple ds)) : ∃ xs, H a = some (.tup xs) ∧ DtAll H xs ds := by
  cases h with
  | tup h t => exact ⟨_, h, t⟩
/-- a pair is taken apart -/
theorem pair_go {K : PySem.W.Frag} {σ : L2.St} {H : Hp} {T : Addr} {x y : V} {i j : Nat} {R : L2.St → Hp → Prop} (h : H T = some (.tup [x, y])) (r : R ((σ.set i (some x)).set j (some y)) H) :
    gTup K 2 (gCons (gName i) (gCons (gName j) gNil)) (.ref T) σ H R := ⟨T, [x, y], rfl, .inl (.inl h), rfl, x, [y], rfl, y, [], rfl, rfl, r⟩
end
section
variable {P : Program} {w : World} {K : PySem.W.Frag} {mg : Str → Option Value} {base : Heap}
theorem ok_isStep {f fT dS : Addr} {fd fdT : FuncData} {k n : Nat} {es : Array DictEntry} (F : Fun K "is_step" "is_step" sIsStep f fd) (B : Blt mg) (gS : mg "SHAPES" = some (.ref dS)) (S : Shapes K w dS es n)
    (GT : FnG P w K mg base CX0 k fT fdT ["value", "kind"] spItem) (bT : Binds K fdT ["value", "kind"] []) (kT : PySem.W.keepIn K (.ref fT) = true) (gT : mg "is_item" = some (.ref fT)) :
    FnG P w K mg base CX0 (k + 1) f fd ["value"] (spD isStep) := by
  refine okG F scIsStep spD_len (fun cdv A outer s H vs Q E hq hr h => ?_)
  obtain ⟨v, d, rfl, hd, hs, q⟩ := h
  refine ⟨_, pss_cons (ps_if (PW.pt (pw_or (pt_not (pt_val (pe_callB call_isi (by rfl) B.isi bIsi (pa_cons (pv 0) (pa_cons (pe_bltn (v := .ty "tuple") (by rfl) B.tuple bTuple rfl) pa_nil)))))
      (pw_or1 (pt_cmpR op_eq (pe_callB call_len_seq (by rfl) B.len bLen (pa_cons (pv 0) pa_nil)) pe_int (nomark _))))) (pss_one (ps_ret pe_bl)) pss_nil)
    (pss_cons (ps_if (PW.pt (pw_or (pt_not (pt_val (pe_callB call_isi (by rfl) B.isi bIsi (pa_cons (pe_ix ix_tup (pv 0) pe_int (fun _ _ => rfl)) (pa_cons (pe_bltn (v := .ty "str") (by rfl) B.str bStr rfl) pa_nil)))))
      (pw_or1 (pt_cmpR (op_notKd S.kd) (pe_ix ix_tup (pv 0) pe_int (fun _ _ => rfl)) (pe_glob (v := .ref dS) (by rfl) gS rfl) (by rfl))))) (pss_one (ps_ret pe_bl)) pss_nil)
    (pss_cons (ps_set (i := 1) scIsStep.nd rfl (.inl rfl) (pe_ix ix_kdict (pe_glob (v := .ref dS) (by rfl) gS rfl) (pe_ix ix_tup (pv 0) pe_int (fun _ _ => rfl)) (fun _ _ => rfl)))
    (pss_cons (ps_if (pt_cmpR op_ne (pe_callB call_len_seq (by rfl) B.len bLen (pa_cons (pv 0) pa_nil)) (pe_op op_add (pe_callB call_len_seq (by rfl) B.len bLen (pa_cons (pv 1) pa_nil)) pe_int) (nomark _)) (pss_one (ps_ret pe_bl)) pss_nil)
    (pss_one (ps_ret (pe_callB (cr_all rfl) (by rfl) B.all bAll (pa_cons
      (pe_lc (own := [("item", 2), ("kind", 3)]) (g := gTup K 2 (gCons (gName 2) (gCons (gName 3) gNil))) (tt := tYes) rfl scIsStep.nd (RZ.pi_zipA (by rfl) B.zip (pa_cons (pe_slice sl_tup (pv 0) (po_some pe_int) po_none) (pa_cons (pv 1) pa_nil))) (blkOk_by (own := [("item", 2), ("kind", 3)]) (N := ["value", "shape", "item", "kind"]) (sc := defScope sIsStep) (by decide +kernel))
        (fun _ _ _ _ _ => by exact pg_tup rfl (pgs_cons (pg_name (i := 2) scIsStep.nd rfl (Or.inl rfl)) (pgs_cons (pg_name (i := 3) scIsStep.nd rfl (Or.inl rfl)) pgs_nil))) (fun _ _ _ _ _ => pts_nil)
        (fun _ _ _ _ _ => callG GT hq hr (by rfl) gT kT bT .nil pass0 (pa_cons (pv 2) (pa_cons (pv 3) pa_nil)))) pa_nil))))))), ?_⟩
  have isS := rc_isi (K := K) hd memT
  by_cases ht : ∃ ds, d = .tuple ds
  · obtain ⟨ds, rfl⟩ := ht
    have ha : ∃ a, v = .ref a := by cases hd; exact ⟨_, rfl⟩
    obtain ⟨a, rfl⟩ := ha
    obtain ⟨xs, hx, hds⟩ := dt_tup hd
    have len := hds.length
    refine q_when (et_or (et_not (et_B (ev_cb (ea_cons (ev_var rfl) (ea_cons ev_c ea_nil)) isS))) fun _ => et_test (ev_op (ev_cb (ea_cons (ev_var rfl) ea_nil) (rc_lenT (st_of hx))) ev_c (rv_eq rfl))) (fun hb H1 e1 => ?_) (fun hb H1 e1 => ?_)
    · refine s_ret ev_c fun H2 e2 => ?_
      have hb' : (!(isT "tuple" (.tuple ds)) || decide (V.int (xs.length : Int) = V.int 0)) = true := hb
      have e : isT "tuple" (.tuple ds) = true := rfl
      rw [e, Bool.not_true, Bool.false_or] at hb'
      have z := V.int.inj (of_decide_eq_true hb')
      have g := q H2 (e1.trans e2)
      cases ds with
      | nil => exact g
      | cons y r => rw [len, List.length_cons] at z; omega
    have hb' : (!(isT "tuple" (.tuple ds)) || decide (V.int (xs.length : Int) = V.int 0)) = false := hb
    have e : isT "tuple" (.tuple ds) = true := rfl
    rw [e, Bool.not_true, Bool.false_or] at hb'
    have nz := of_decide_eq_false hb'
    cases hds with
    | nil => exact absurd rfl nz
    | @cons v0 xs' d0 ds' h0 hr' =>
    have ix0 : ∀ {H' : Hp}, Ex H H' → ∀ {σ : L2.St}, σ[0]? = some (some (.ref a)) → Ev (tOp (rIxT K) (tVar 0) (tC (.int 0))) σ H' v0 := fun e0 σ hσ => ev_op (ev_var hσ) ev_c (rv_ixT (st_of (e0 _ _ hx)) (atI_nat (j := 0) rfl))
    have h01 := Dt.ex e1 h0
    have isS0 := rc_isi (K := K) h01 memS
    by_cases hstr : ∃ z, d0 = .str z
    · obtain ⟨z, rfl⟩ := hstr
      cases h0
      cases hsh : shapeOf z with
      | none =>
        refine q_when (b := true) (et_is (et_or (et_not (et_B (ev_cb (ea_cons (ix0 e1 rfl) (ea_cons ev_c ea_nil)) isS0))) (b := true) fun _ => et_test (ev_op (ix0 e1 rfl) ev_c (rv_val fun H2 _ Q q => ⟨z, none, rfl, rfl, S.no z hsh, q⟩))) (Bool.or_true _)) (fun _ H2 e2 => s_ret ev_c fun H3 e3 => ?_) (fun z => absurd z (by decide))
        have g := q H3 ((e1.trans e2).trans e3)
        have zz : isStep (.tuple (.str z :: ds')) = false := by
          show (match shapeOf z with | some ks => _ | none => false) = false
          rw [hsh]
        rw [zz] at g
        exact g
      | some ks =>
        obtain ⟨aS, n1, tS⟩ := S.yes z ks hsh
        refine q_when (b := false) (et_is (et_or (et_not (et_B (ev_cb (ea_cons (ix0 e1 rfl) (ea_cons ev_c ea_nil)) isS0))) (b := false) fun _ => et_test (ev_op (ix0 e1 rfl) ev_c (rv_val fun H2 _ Q q => ⟨z, some (.ref aS), rfl, rfl, n1, q⟩))) rfl) (fun z => absurd z (by decide)) (fun _ H2 e2 => ?_)
        have e12 := e1.trans e2
        refine q_asg (v := .ref aS) (ev_op ev_c (ix0 e12 rfl) (rv_val fun H3 _ Q q => ⟨dS, z, .ref aS, rfl, rfl, ⟨es, n, .ref aS, S.kd.at_, S.kd.lit, n1, rfl⟩, q⟩)) fun H3 e3 => ?_
        have e13 := e12.trans e3
        have lk : (ks.map V.str).length = ks.length := List.length_map ..
        have zz : isStep (.tuple (.str z :: ds')) = (decide (ds'.length = ks.length) && stepItems ds' ks) := by
          show (match shapeOf z with | some ks => (decide (ds'.length = ks.length) && stepItems ds' ks) | none => false) = _
          rw [hsh]
        have lx := hr'.length
        refine q_when (b := !decide (ds'.length = ks.length)) (et_is (et_test (ev_op (ev_cb (ea_cons (ev_var rfl) ea_nil) (rc_lenT (st_of (e13 _ _ hx)))) (ev_op (ev_cb (ea_cons (ev_var rfl) ea_nil) (rc_lenT tS.sq)) ev_c rv_I0) (rv_ne rfl))) ?_) (fun hb2 H4 e4 => s_ret ev_c fun H5 e5 => ?_) (fun hb2 H4 e4 => ?_)
        · show (!decide (V.int (((V.str z :: xs').length : Nat) : Int) = V.int (((ks.map V.str).length : Nat) + 1 : Int))) = _
          congr 1
          rw [lk, List.length_cons]
          by_cases hh : ds'.length = ks.length
          · rw [decide_eq_true hh, decide_eq_true]
            rw [lx, hh]; rfl
          · rw [decide_eq_false hh, decide_eq_false]
            intro hz
            have := V.int.inj hz
            omega
        · have g := q H5 ((e13.trans e4).trans e5)
          rw [zz] at g
          rw [Bool.not_eq_true'] at hb2
          rw [hb2, Bool.false_and] at g
          exact g
        · rw [Bool.not_eq_false'] at hb2
          have hh := of_decide_eq_true hb2
          have e14 := e13.trans e4
          have hn : ks.length ≤ 1000 := by
            rw [sm, Bool.and_eq_true] at hs
            have := of_decide_eq_true hs.1
            rw [List.length_cons] at this
            omega
          have hsd : smAll ds' = true := by
            rw [sm, Bool.and_eq_true, smAll, Bool.and_eq_true] at hs
            exact hs.2.2
          have lc := el_lcW (wi := RZ.iZipA K (tCons (tSl (rSlT K) (tVar 0) (tPart (tC (.int 1))) tNoPart) (tCons (tVar 1) tNil))) (g := gTup K 2 (gCons (gName 2) (gCons (gName 3) gNil))) (tt := tYes) (te := tCall spItem [] E0 (tCons (tVar 2) (tCons (tVar 3) tNil))) (vs := [2, 3])
            (σ := [some (.ref a), some (.ref aS), none, none]) (H := H4) (n := ks.length) (Y := YPair (fun i => xs'[i]?) fun i => (ks.map V.str)[i]?) (fun _ => true) (fun i => .bl (isItem (ds'.getD i .none) (ks.getD i ""))) (by omega)
            (fun H5 e5 R r => by
              refine eu_tail (ev_var rfl) (st_of ((e14.trans e5) _ _ hx)) H5 (Ex.refl H5) _ fun p H6 hp e6 h6 => ?_
              refine ⟨.ref aS, rfl, p, aS, xs', ks.map V.str, rfl, .inr ⟨st_of h6, tS.sq, r H6 _ _ (walk_zipT (xs := xs') (ys := ks.map V.str) (by rw [lk]; omega)) (fun H7 H8 e7 z => ⟨ex_t e7 z.1, ex_t e7 z.2⟩) e6 ⟨st_of h6, tS.sq⟩⟩⟩)
            (fun i y H5 H6 e5 hi hy => by
              obtain ⟨T, x1, y1, rfl, hT, rfl, hx1, hy1⟩ := hy
              obtain ⟨d1, hd1, dd1⟩ := hr'.get hx1
              have hk1 : ks[i]? = some (ks.getD i "") := by
                rw [List.getElem?_eq_getElem hi]
                simp [List.getD, List.getElem?_eq_getElem hi]
              have ey : y1 = V.str (ks.getD i "") := by
                have hy2 : (ks.map V.str)[i]? = some y1 := hy1
                rw [List.getElem?_map, hk1] at hy2
                exact (Option.some.inj hy2).symm
              have ed : ds'.getD i .none = d1 := by rw [List.getD, hd1]; rfl
              subst ey
              refine ⟨Ex.new hT, [some (.ref a), some (.ref aS), some x1, some (.str (ks.getD i ""))], rfl, fun R r => pair_go upd_same r, fun H7 _ Q q => q H7 (Ex.refl H7), fun _ => ?_⟩
              rw [ed]
              refine ev_call (ea_cons (ev_var rfl) (ea_cons (ev_var rfl) ea_nil)) fun H7 e7 Q q E => ⟨x1, d1, ks.getD i "", rfl, Dt.ex (((e14.trans e5).trans (Ex.new hT)).trans e7) dd1, smAll_get hsd hd1, q⟩)
          have eg : given ks.length (fun _ => true) (fun i => V.bl (isItem (ds'.getD i .none) (ks.getD i ""))) = ((List.range ks.length).map fun i => isItem (ds'.getD i .none) (ks.getD i "")).map V.bl := by
            rw [given_all, List.map_map]; rfl
          rw [eg] at lc
          refine s_ret (ev_all lc) fun H5 e5 => ?_
          have g := q H5 (e14.trans e5)
          rw [zz, decide_eq_true hh, Bool.true_and] at g
          exact g
    · have ns : isT "str" d0 = false := by
        cases d0 with
        | str z => exact absurd ⟨z, rfl⟩ hstr
        | _ => rfl
      refine q_when (b := true) (et_is (et_or (et_not (et_B (ev_cb (ea_cons (ix0 e1 rfl) (ea_cons ev_c ea_nil)) isS0))) (b := true) fun z => absurd z (by rw [ns]; decide)) (Bool.or_true _)) (fun _ H2 e2 => s_ret ev_c fun H3 e3 => ?_) (fun z => absurd z (by decide))
      have g := q H3 ((e1.trans e2).trans e3)
      cases d0 with
      | str z => exact absurd ⟨z, rfl⟩ hstr
      | _ => exact g
  · have nt : isT "tuple" d = false := by
      cases d with
      | tuple ds => exact absurd ⟨ds, rfl⟩ ht
      | _ => rfl
    refine q_when (b := true) (et_is (et_or (et_not (et_B (ev_cb (ea_cons (ev_var rfl) (ea_cons ev_c ea_nil)) isS))) (b := true) fun z => absurd z (by rw [nt]; decide)) (Bool.or_true _)) (fun _ H1 e1 => s_ret ev_c fun H2 e2 => ?_) (fun z => absurd z (by decide))
    have g := q H2 (e1.trans e2)
    cases d with
    | tuple ds => exact absurd ⟨ds, rfl⟩ ht
    | _ => exact g

theorem ok_isPlain {f fS aP : Addr} {fd fdS : FuncData} {k : Nat} (F : Fun K "is_plain" "is_plain" sIsPlain f fd) (gP : mg "PLAIN_STEPS" = some (.ref aP)) (tP : KTup K aP (plain3.map V.str))
    (GS : FnG P w K mg base CX0 k fS fdS ["value"] (spD isStep)) (bS : Binds K fdS ["value"] []) (kS : PySem.W.keepIn K (.ref fS) = true) (gS : mg "is_step" = some (.ref fS)) :
    FnG P w K mg base CX0 (k + 1) f fd ["step"] (spD isPlain) := by
  refine okG F scIsPlain spD_len (fun cdv A outer s H vs Q E hq hr h => ?_)
  obtain ⟨v, d, rfl, hd, hs, q⟩ := h
  refine ⟨_, pss_one (ps_ret (pe_and (callG GS hq hr (by rfl) gS kS bS .nil pass0 (pa_cons (pv 0) pa_nil)) (pe_one (pe_cmpR op_in_seq (pe_ix ix_tup (pv 0) pe_int (fun _ _ => rfl)) (pe_glob (v := .ref aP) (by rfl) gP rfl) (by rfl))))), ?_⟩
  by_cases ht : ∃ z ds, d = .tuple (.str z :: ds)
  · obtain ⟨z, ds, rfl⟩ := ht
    have ha : ∃ a, v = .ref a := by cases hd; exact ⟨_, rfl⟩
    obtain ⟨a, rfl⟩ := ha
    obtain ⟨xs, hx, hds⟩ := dt_tup hd
    cases hds with
    | cons h0 hr' =>
      cases h0
      refine s_ret (v := .bl (isPlain (.tuple (.str z :: ds)))) (ev_is (ev_andV (b := inV (.str z) (plain3.map V.str)) (ev_call (ea_cons (ev_var rfl) ea_nil) (spv_D hd hs)) fun _ => ev_op (ev_op (ev_var rfl) ev_c (rv_ixT (st_of hx) (atI_nat (j := 0) rfl))) ev_c (rv_isT tP.sq rfl (flat_strs _))) ?_) q
      rw [inV_strs]
      rfl
  · have no : isStep d = false := by
      cases d with
      | tuple ds =>
        cases ds with
        | nil => rfl
        | cons d0 ds =>
          cases d0 with
          | str z => exact absurd ⟨z, ds, rfl⟩ ht
          | _ => rfl
      | _ => rfl
    refine s_ret (ev_andV (b := false) (ev_call (ea_cons (ev_var rfl) ea_nil) (spv_D hd hs)) fun z => absurd z (by rw [no]; decide)) fun H1 e1 => ?_
    have g := q H1 e1
    unfold isPlain at g
    rw [no, Bool.false_and] at g ⊢
    exact g
end
end Cr
/-! the law's own draws -/
namespace Cr
open PySem PySem.Spec PyProof.Rows L2 Evl
abbrev sPot : Stmt := topS 14
abbrev sDraw : Stmt := topS 15
abbrev sChoice : Stmt := topS 16
abbrev sInteger : Stmt := topS 19
abbrev nPot : List Str := ["_law_script", "_law_index", "_law_cell"]
abbrev nDraw : List Str := ["_law_pot_here", "_law_most", "_law_digit"]
abbrev nChoice : List Str := ["_law_pot_here", "_law_options"]
theorem scPot : FnScope nPot ["_law_script", "_law_index"] (defScope sPot) := ⟨rfl, rfl, rfl, by decide +kernel, rfl, by decide +kernel, by decide +kernel⟩
theorem scDraw : FnScope nDraw ["_law_pot_here", "_law_most"] (defScope sDraw) := ⟨rfl, rfl, rfl, by decide +kernel, rfl, by decide +kernel, by decide +kernel⟩
theorem scChoice : FnScope nChoice ["_law_pot_here", "_law_options"] (defScope sChoice) := ⟨rfl, rfl, rfl, by decide +kernel, rfl, by decide +kernel, by decide +kernel⟩
theorem scInteger : FnScope ["_law_pot_here"] ["_law_pot_here"] (defScope sInteger) := ⟨rfl, rfl, rfl, by decide +kernel, rfl, by decide +kernel, by decide +kernel⟩
theorem bMax : bootBuiltins "max" = some (.builtin "max") := by decide +kernel
theorem bMin : bootBuiltins "min" = some (.builtin "min") := by decide +kernel
theorem bAbs : bootBuiltins "abs" = some (.builtin "abs") := by decide +kernel
theorem bDivmod : bootBuiltins "divmod" = some (.builtin "divmod") := by decide +kernel

/-- the pot at p -/
def Pot (H : Hp) (p : Addr) : Prop := ∃ x y : Int, H p = some (.lst [.int x, .int y]) ∧ 0 ≤ x ∧ 0 ≤ y ∧ y < 2147483648
/-- drawn from: all but the pot stands as it stood -/
structure Drew (p : Addr) (H H' : Hp) : Prop where
  ex : Ex (wo p H) (wo p H')
  pot : Pot H' p
theorem Drew.trans {p : Addr} {H H1 H2 : Hp} (a : Drew p H H1) (b : Drew p H1 H2) : Drew p H H2 := ⟨a.ex.trans b.ex, b.pot⟩
theorem Drew.refl {p : Addr} {H : Hp} (h : Pot H p) : Drew p H H := ⟨Ex.refl _, h⟩
theorem Pot.ex {p : Addr} {H H' : Hp} (h : Pot H p) (e : Ex H H') : Pot H' p := by
  obtain ⟨x, y, h, r⟩ := h
  exact ⟨x, y, e _ _ h, r⟩
theorem Drew.of {p : Addr} {H H' : Hp} (h : Pot H p) (e : Ex H H') : Drew p H H' := ⟨Ex.wo e, h.ex e⟩
theorem Drew.at {p a : Addr} {H H' : Hp} {o : HO} (d : Drew p H H') (n : a ≠ p) (h : H a = some o) : H' a = some o :=
  (wo_some (d.ex a o (by rw [wo_ne n]; exact h))).2
theorem Drew.set {p : Addr} {H : Hp} {o : HO} {x y : Int} (e : o = .lst [.int x, .int y]) (hx : 0 ≤ x) (hy : 0 ≤ y) (hy2 : y < 2147483648) : Drew p H (upd H p o) :=
  ⟨wo_upd (Ex.refl _), x, y, by rw [upd_same, e], hx, hy, hy2⟩
theorem fresh_drew {p q : Addr} {H H' : Hp} (d : Drew p H H') (hp : Pot H p) (h : H' q = none) : H q = none := by
  cases e : H q with
  | none => rfl
  | some o =>
    by_cases n : q = p
    · subst n
      obtain ⟨x, y, z, _⟩ := d.pot
      rw [z] at h
      cases h
    · rw [d.at n e] at h
      cases h

def spPot (K : PySem.W.Frag) : Sp := fun vs H Q _ => ∃ (a : Addr) (ns : List Int) (i : Nat), vs = [.ref a, .int (i : Int)] ∧ SqL K H a (ns.map V.int) ∧ i < 100 ∧ ∀ p H', H p = none → Ex H H' → Pot H' p → Q (.ref p) H'
def spDraw : Sp := fun vs H Q _ => ∃ (p : Addr) (b : Int), vs = [.ref p, .int b] ∧ 0 < b ∧ b.natAbs.log2 < 9000 ∧ Pot H p ∧ ∀ d H', 0 ≤ d → d < b → Drew p H H' → Q (.int d) H'
def spChoice : Sp := fun vs H Q _ => ∃ (p : Addr), Pot H p ∧
  ((∃ (o : Addr) (xs : List V), vs = [.ref p, .ref o] ∧ o ≠ p ∧ H o = some (.lst xs) ∧ 0 < xs.length ∧ xs.length ≤ 1000 ∧ ∀ v H', v ∈ xs → Drew p H H' → Q v H') ∨
   ∃ z : Str, vs = [.ref p, .str z] ∧ 0 < z.length ∧ z.length ≤ 1000 ∧ ∀ c H', c ∈ z.cps.toList → Drew p H H' → Q (.str ⟨#[c]⟩) H')
theorem pow3_pos {m : Int} : 0 < (2147483587 : Int) := by decide

section
variable {P : Program} {w : World} {K : PySem.W.Frag} {mg : Str → Option Value} {base : Heap}
theorem ok_pot {f : Addr} {fd : FuncData} {k : Nat} (F : Fun K "_law_pot" "_law_pot" sPot f fd) (B : Blt mg) : FnG P w K mg base CX0 (k + 1) f fd ["_law_script", "_law_index"] (spPot K) := by
  refine okG F scPot (fun vs H Q E h => by obtain ⟨_, _, _, rfl, _⟩ := h; rfl) (fun cdv A outer s H vs Q E hq hr h => ?_)
  obtain ⟨a, ns, i, rfl, hS, hi, q⟩ := h
  refine ⟨_, pss_cons (ps_set (i := 2) scPot.nd rfl (.inl rfl) pe_int)
    (pss_cut (ps_if (pt_cmpR op_lt (pv 1) (pe_callB call_len_seq (by rfl) B.len bLen (pa_cons (pv 0) pa_nil)) (nomark _))
      (pss_one (ps_set (i := 2) scPot.nd rfl (.inl rfl) (pe_callB call_abs (by rfl) B.abs bAbs (pa_cons (pe_ix ix_list (pv 0) (pv 1) (fun _ _ => rfl)) pa_nil)))) pss_nil)
    (pss_one (ps_ret (pe_lst (pa_cons (pe_callB (call_max2 rfl) (by rfl) B.max bMax (pa_cons pe_int (pa_cons (pe_op op_sub (pv 2) (pe_op op_pow pe_int pe_int)) pa_nil)))
      (pa_cons (pe_op op_add (pe_op op_mod (pe_op op_pow (pe_op op_add (pe_op op_add (pe_op op_mod (pv 2) pe_int) (pe_op op_mul pe_int (pv 1))) pe_int) pe_int) pe_int) pe_int) pa_nil)))))), ?_⟩
  refine q_asg ev_c fun H1 e1 => ?_
  refine q_cut (M := fun σ H2 => ∃ c : Int, 0 ≤ c ∧ σ = [some (.ref a), some (.int i), some (.int c)] ∧ Ex H H2) ?_ ?_
  · refine s_when (et_test (ev_op (ev_var rfl) (ev_cb (ea_cons (ev_var rfl) ea_nil) (rc_lenL (ex_l e1 hS))) rv_I0)) (fun hb H2 e2 => ?_) (fun hb H2 e2 => ⟨0, Int.le_refl 0, rfl, e1.trans e2⟩)
    have hlt := of_decide_eq_true hb
    rw [List.length_map] at hlt
    have hlt2 : i < ns.length := by omega
    refine s_asg (v := .int (if ns[i] < 0 then -ns[i] else ns[i])) (ev_cb (ea_cons (ev_op (ev_var rfl) (ev_var rfl) (rv_ixL (ex_l (e1.trans e2) hS) (atI_nat (j := i) (v := .int ns[i]) (by rw [List.getElem?_map, List.getElem?_eq_getElem hlt2]; rfl)))) ea_nil) (fun H3 _ Q q => ⟨_, rfl, q H3 (Ex.refl H3)⟩)) fun H3 e3 => ?_
    exact ⟨_, by split <;> omega, rfl, (e1.trans e2).trans e3⟩
  · rintro σ H2 ⟨c, hc, rfl, e2⟩
    have hm : 0 ≤ c % 2147483629 ∧ c % 2147483629 < 2147483629 := ⟨Int.emod_nonneg _ (by decide), Int.emod_lt_of_pos _ (by decide)⟩
    have hz : (c % 2147483629 + 1013 * (i : Int) + 7).natAbs < 2 ^ 64 := by omega
    have hx : ∀ y : Int, 0 ≤ y % 2147483587 ∧ y % 2147483587 < 2147483587 := fun y => ⟨Int.emod_nonneg _ (by decide), Int.emod_lt_of_pos _ (by decide)⟩
    have hx1 := hx ((c % 2147483629 + 1013 * (i : Int) + 7) ^ (3 : Int).toNat)
    refine s_retL (el_lst (ea_cons (ev_cb (ea_cons ev_c (ea_cons (ev_op (ev_var rfl) (ev_op ev_c ev_c (rv_I ⟨by decide, by decide, by decide⟩)) rv_I0) ea_nil)) (fun H3 _ Q q => ⟨_, _, rfl, q H3 (Ex.refl H3)⟩))
      (ea_cons (ev_op (ev_op (ev_op (ev_op (ev_op (ev_op (ev_var rfl) ev_c (rv_I (by show (0 : Int) < 2147483629; decide))) (ev_op ev_c (ev_var rfl) (rv_I (.inl ⟨by decide, by decide⟩))) rv_I0) ev_c rv_I0) ev_c (rv_I ⟨by decide, by decide, hz⟩)) ev_c (rv_I (by show (0 : Int) < 2147483587; decide))) ev_c rv_I0) ea_nil)) (by show 2 ≤ 100000; decide)) fun p H3 hp e3 h3 => ?_
    refine q p H3 (fresh_back e2 hp) (e2.trans e3) ⟨_, _, h3, ?_, ?_, ?_⟩
    · split <;> omega
    · omega
    · omega
end
end Cr
namespace Cr
open PySem PySem.Spec PyProof.Rows L2 Evl
/-- the law's helpers as they are called: the promise, how it binds, where it stands -/
structure Has (P : Program) (w : World) (K : PySem.W.Frag) (mg : Str → Option Value) (base : Heap) (k : Nat) (x : Str) (ps : List Str) (sp : Sp) : Prop where
  ex : ∃ f fd, FnG P w K mg base CX0 k f fd ps sp ∧ Binds K fd ps [] ∧ PySem.W.keepIn K (.ref f) = true ∧ mg x = some (.ref f)
theorem divp_small {i j : Int} (h : 0 < j) (hj : j.natAbs.log2 < 9000) : CDivP i j := by
  refine ⟨h, ?_⟩
  show (decide ((if j == 0 then 0 else j.natAbs.log2 / 30 + 1) > 300) && decide ((if i == 0 then 0 else i.natAbs.log2 / 30 + 1) > (if j == 0 then 0 else j.natAbs.log2 / 30 + 1) + 150)) = false
  rw [if_neg (show ¬ (j == 0) = true by simpa using (show j ≠ 0 by omega)), decide_eq_false (show ¬ j.natAbs.log2 / 30 + 1 > 300 by omega), Bool.false_and]
section
variable {P : Program} {w : World} {K : PySem.W.Frag} {mg : Str → Option Value} {base : Heap}
theorem ok_draw {f : Addr} {fd : FuncData} {k : Nat} (F : Fun K "_law_draw" "_law_draw" sDraw f fd) (B : Blt mg) : FnG P w K mg base CX0 (k + 1) f fd ["_law_pot_here", "_law_most"] spDraw := by
  refine okG F scDraw (fun vs H Q E h => by obtain ⟨_, _, rfl, _⟩ := h; rfl) (fun cdv A outer s H vs Q E hq hr h => ?_)
  obtain ⟨p, b, rfl, hb, hb2, ⟨x, y, hp, hx, hy, hy2⟩, q⟩ := h
  refine ⟨_, pss_cons (ps_if (pt_cmpR op_gt (pe_ix ix_list (pv 0) pe_int (fun _ _ => rfl)) pe_int (nomark _))
      (pss_cons (ps_asg (pe_callB call_divmodW (by rfl) B.divmod bDivmod (pa_cons (pe_ix ix_list (pv 0) pe_int (fun _ _ => rfl)) (pa_cons (pv 1) pa_nil)))
          (pg_tup rfl (pgs_cons (pg_sub (pv 0) pe_int set_list) (pgs_cons (pg_name (i := 2) scDraw.nd rfl (.inl rfl)) pgs_nil))))
        (pss_one (ps_ret (pv 2)))) pss_nil)
    (pss_cons (ps_asg (pe_op op_mod (pe_op op_add (pe_op op_mul (pe_ix ix_list (pv 0) pe_int (fun _ _ => rfl)) pe_int) pe_int) pe_int) (pg_sub (pv 0) pe_int set_list))
    (pss_one (ps_ret (pe_op op_mod (pe_op op_fdiv (pe_op op_mod (pe_op op_mul (pe_ix ix_list (pv 0) pe_int (fun _ _ => rfl)) (pe_ix ix_list (pv 0) pe_int (fun _ _ => rfl))) pe_int) pe_int) (pv 1))))), ?_⟩
  have i0 : atI [V.int x, V.int y] 0 = some (.int x) := atI_nat (j := 0) rfl
  have i1 : ∀ z : Int, atI [V.int x, V.int z] 1 = some (.int z) := fun z => atI_nat (j := 1) rfl
  refine q_when (et_test (ev_op (ev_op (ev_var rfl) ev_c (rv_ixL (sq_of hp) i0)) ev_c rv_I0)) (fun hc H1 e1 => ?_) (fun hc H1 e1 => ?_)
  · -- the digits
    have hx1 : 0 < x := of_decide_eq_true hc
    have hp1 := e1 _ _ hp
    refine ev_op (ev_var rfl) ev_c (rv_ixL (K := K) (sq_of hp1) i0) H1 (Ex.refl H1) _ fun H2 e2 => ?_
    refine ⟨.int b, rfl, x, b, rfl, divp_small hb hb2, fun t ht => ?_⟩
    have tp : p ≠ t := ne_of_none (e2 _ _ hp1) ht
    refine ⟨t, [.int (x / b), .int (x % b)], rfl, .inl (.inl upd_same), rfl, .int (x / b), [.int (x % b)], rfl, .ref p, rfl, p, [.int x, .int y], 0, 0, rfl, rfl, ?_, rfl, .int (x % b), [], rfl, rfl, .int (x % b), rfl, ?_⟩
    · rw [upd_ne tp]
      exact e2 _ _ hp1
    · refine q (x % b) _ (Int.emod_nonneg _ (by omega)) (Int.emod_lt_of_pos _ hb) ?_
      refine Drew.trans (H1 := upd H2 t (.tup [.int (x / b), .int (x % b)])) (Drew.of ⟨x, y, hp, hx, hy, hy2⟩ ((e1.trans e2).trans (Ex.new ht))) ?_
      exact Drew.set rfl (Int.ediv_nonneg hx (by omega)) hy hy2
  · have hp1 := e1 _ _ hp
    have m1 : 0 ≤ (y * 48271 + 10037) % 2147483587 ∧ (y * 48271 + 10037) % 2147483587 < 2147483587 := ⟨Int.emod_nonneg _ (by decide), Int.emod_lt_of_pos _ (by decide)⟩
    generalize ez : (y * 48271 + 10037) % 2147483587 = z at m1
    refine ev_op (z := .int ((y * 48271 + 10037) % 2147483587)) (ev_op (ev_op (ev_op (ev_var rfl) ev_c (rv_ixL (K := K) (sq_of hp1) (i1 y))) ev_c (rv_I (.inl ⟨by omega, by omega⟩))) ev_c rv_I0) ev_c (rv_I (by show (0 : Int) < 2147483587; decide)) H1 (Ex.refl H1) _ fun H2 e2 => ?_
    rw [ez]
    refine ⟨.ref p, rfl, p, [.int x, .int y], 1, 1, rfl, rfl, e2 _ _ hp1, rfl, ?_⟩
    have dr : Drew p H (upd H2 p (.lst [.int x, .int z])) := Drew.trans (H1 := H2) (Drew.of ⟨x, y, hp, hx, hy, hy2⟩ (e1.trans e2)) (Drew.set rfl hx m1.1 (by omega))
    have hp3 : (upd H2 p (.lst [.int x, .int z])) p = some (.lst [.int x, .int z]) := upd_same
    have ix : Ev (tOp (rIxL K) (tVar 0) (tC (.int 1))) [some (.ref p), some (.int b), none] (upd H2 p (.lst [.int x, .int z])) (.int z) := ev_op (ev_var rfl) ev_c (rv_ixL (sq_of hp3) (i1 z))
    refine s_ret (ev_op (ev_op (ev_op (ev_op ix ix (rv_I (.inl ⟨by omega, by omega⟩))) ev_c (rv_I (by show (0 : Int) < 2147483563; decide))) ev_c (rv_I ⟨by decide, by decide⟩)) (ev_var rfl) (rv_I (C := fun _ j => 0 < j) hb)) fun H3 e3 => ?_
    exact q _ H3 (Int.emod_nonneg _ (by omega)) (Int.emod_lt_of_pos _ hb) (dr.trans (Drew.of dr.pot e3))

theorem ok_choice {f : Addr} {fd : FuncData} {k : Nat} (F : Fun K "_law_choice" "_law_choice" sChoice f fd) (B : Blt mg) (D : Has P w K mg base k "_law_draw" ["_law_pot_here", "_law_most"] spDraw) :
    FnG P w K mg base CX0 (k + 1) f fd ["_law_pot_here", "_law_options"] spChoice := by
  obtain ⟨fD, fdD, GD, bD, kD, gD⟩ := D.ex
  refine okG F scChoice (fun vs H Q E h => by obtain ⟨_, _, h⟩ := h; rcases h with ⟨_, _, rfl, _⟩ | ⟨_, rfl, _⟩ <;> rfl) (fun cdv A outer s H vs Q E hq hr h => ?_)
  obtain ⟨p, pot, h⟩ := h
  refine ⟨_, pss_one (ps_ret (pe_ix ix_seq (pv 1) (callG GD hq hr (by rfl) gD kD bD .nil pass0 (pa_cons (pv 0) (pa_cons (pe_callB call_len (by rfl) B.len bLen (pa_cons (pv 1) pa_nil)) pa_nil))) (fun _ _ => rfl))), ?_⟩
  have small : ∀ n : Nat, 0 < n → n ≤ 1000 → ((n : Int)).natAbs.log2 < 9000 := fun n h1 h2 => by
    have : (n : Int).natAbs = n := Int.natAbs_natCast n
    rw [this]
    have := (Nat.log2_lt (k := 10) (by omega)).mpr (show n < 2 ^ 10 by omega)
    omega
  rcases h with ⟨o, xs, rfl, ne, ho, h1, h2, q⟩ | ⟨z, rfl, h1, h2, q⟩
  · refine ⟨.ref o, rfl, .ref p, rfl, .ref o, rfl, .ref o, xs.length, rfl, .inl ⟨xs, sq_of ho, rfl⟩, p, (xs.length : Int), rfl, by omega, small _ h1 h2, pot, fun d H1 d0 d1 dr => ?_⟩
    obtain ⟨j, rfl⟩ := Int.eq_ofNat_of_zero_le d0
    have hj : j < xs.length := by omega
    exact .inl ⟨o, xs, (j : Int), xs[j], rfl, rfl, sq_of (dr.at ne ho), atI_nat (List.getElem?_eq_getElem hj), q _ H1 (List.getElem_mem hj) dr⟩
  · refine ⟨.str z, rfl, .ref p, rfl, .str z, rfl, .str z, z.length, rfl, ⟨sz_of (by omega), rfl⟩, p, (z.length : Int), rfl, by omega, small _ h1 h2, pot, fun d H1 d0 d1 dr => ?_⟩
    obtain ⟨j, rfl⟩ := Int.eq_ofNat_of_zero_le d0
    have hj : j < z.cps.toList.length := by
      have : z.cps.toList.length = z.length := by simp [Str.length]
      omega
    exact .inr (.inr ⟨z, (j : Int), z.cps.toList[j], rfl, rfl, sz_of (by omega), atI_nat (List.getElem?_eq_getElem hj), q _ H1 (List.getElem_mem hj) dr⟩)

/-- an int of at most thirty digits -/
def spInteger : Sp := fun vs H Q _ => ∃ p : Addr, vs = [.ref p] ∧ Pot H p ∧ ∀ (i : Int) H', i.natAbs ≤ 10 ^ 30 → Drew p H H' → Q (.int i) H'
theorem ok_integer {f : Addr} {fd : FuncData} {k : Nat} (F : Fun K "_law_integer" "_law_integer" sInteger f fd) (D : Has P w K mg base k "_law_draw" ["_law_pot_here", "_law_most"] spDraw) (C : Has P w K mg base k "_law_choice" ["_law_pot_here", "_law_options"] spChoice) :
    FnG P w K mg base CX0 (k + 1) f fd ["_law_pot_here"] spInteger := by
  obtain ⟨fD, fdD, GD, bD, kD, gD⟩ := D.ex
  obtain ⟨fC, fdC, GC, bC, kC, gC⟩ := C.ex
  refine okG F scInteger (fun vs H Q E h => by obtain ⟨_, rfl, _⟩ := h; rfl) (fun cdv A outer s H vs Q E hq hr h => ?_)
  obtain ⟨p, rfl, pot, q⟩ := h
  refine ⟨_, pss_one (ps_ret (callG GC hq hr (by rfl) gC kC bC .nil pass0 (pa_cons (pv 0) (pa_cons (pe_lst (pa_cons pe_int (pa_cons pe_int (pa_cons (pe_un un_neg pe_int)
    (pa_cons (pe_op op_sub (callG GD hq hr (by rfl) gD kD bD .nil pass0 (pa_cons (pv 0) (pa_cons pe_int pa_nil))) pe_int)
    (pa_cons (callG GD hq hr (by rfl) gD kD bD .nil pass0 (pa_cons (pv 0) (pa_cons (pe_op op_pow pe_int pe_int) pa_nil)))
    (pa_cons (pe_op op_sub pe_int (callG GD hq hr (by rfl) gD kD bD .nil pass0 (pa_cons (pv 0) (pa_cons (pe_op op_pow pe_int pe_int) pa_nil)))) pa_nil))))))) pa_nil)))), ?_⟩
  have big : (10 : Int) ^ (30 : Int).toNat = 1000000000000000000000000000000 := by decide
  have lb : ((10 : Int) ^ (30 : Int).toNat).natAbs.log2 < 9000 := by rw [big]; decide +kernel
  refine ⟨.ref p, rfl, 1, rfl, .ref p, rfl, p, 9, rfl, by decide, by decide +kernel, pot, fun d1 H1 a1 b1 r1 => ?_⟩
  refine ⟨d1, 4, rfl, rfl, .ref p, rfl, 10, 30, rfl, rfl, ⟨by decide, by decide, by decide⟩, p, _, rfl, by rw [big]; decide, lb, r1.pot, fun d2 H2 a2 b2 r2 => ?_⟩
  refine ⟨.ref p, rfl, 10, 30, rfl, rfl, ⟨by decide, by decide, by decide⟩, p, _, rfl, by rw [big]; decide, lb, r2.pot, fun d3 H3 a3 b3 r3 => ?_⟩
  refine ⟨0, d3, rfl, rfl, by show 6 ≤ sizeLine; decide, fun o ho => ?_⟩
  rw [big] at b2 b3
  have r13 := (r1.trans r2).trans r3
  have on : o ≠ p := fun e => by
    obtain ⟨x, y, z, _⟩ := r13.pot
    rw [← e] at z
    rw [z] at ho
    cases ho
  have r4 := r13.trans (Drew.of r13.pot (Ex.new (o := .lst [.int 0, .int 1, .int (-1), .int (d1 - 4), .int d2, .int (0 - d3)]) ho))
  refine ⟨p, r4.pot, .inl ⟨o, _, rfl, on, upd_same, Nat.succ_pos _, by show 6 ≤ 1000; decide, fun v H4 hv r5 => ?_⟩⟩
  simp only [List.mem_cons, List.not_mem_nil, or_false] at hv
  have e30 : (10 : Nat) ^ 30 = 1000000000000000000000000000000 := by decide
  rcases hv with rfl | rfl | rfl | rfl | rfl | rfl <;> refine q _ H4 ?_ (r4.trans r5) <;> rw [e30] <;> omega
end
end Cr
namespace Cr
open PySem PySem.Spec PyProof.Rows L2 Evl
abbrev sName : Stmt := topS 17
abbrev sNames : Stmt := topS 18
abbrev nName : List Str := ["_law_pot_here", "_law_used", "_law_letters", "_law_size", "_law_word", "_law_spare", "_law_turn", "_law_at", "_law_one"]
abbrev nNames : List Str := ["_law_pot_here", "_law_number", "_law_found", "_law_turn"]
theorem scName : FnScope nName ["_law_pot_here", "_law_used"] (defScope sName) := ⟨rfl, rfl, rfl, by decide +kernel, rfl, by decide +kernel, by decide +kernel⟩
theorem scNames : FnScope nNames ["_law_pot_here", "_law_number"] (defScope sNames) := ⟨rfl, rfl, rfl, by decide +kernel, rfl, by decide +kernel, by decide +kernel⟩
/-! ### texts of letters -/
theorem join_cps : ∀ ws : List Str, (Txt.join ("" : Str) ws).cps.toList = ws.flatMap fun w => w.cps.toList := by
  have e0 : (("" : Str)).cps.toList = [] := by decide +kernel
  have h : ∀ ws : List Str, (Str.join ("" : Str) ws).cps.toList = ws.flatMap fun w => w.cps.toList := by
    intro ws
    induction ws with
    | nil => rfl
    | cons x r ih =>
      cases r with
      | nil => simp [Str.join]
      | cons y r =>
        rw [show Str.join ("" : Str) (x :: y :: r) = x ++ "" ++ Str.join "" (y :: r) from rfl, Str.cps_append, Str.cps_append, Array.toList_append, Array.toList_append, ih, e0, List.append_nil]
        simp
  intro ws
  rw [TL.join_eq]
  exact h ws
theorem len_toList (x : Str) : x.cps.toList.length = x.length := by simp [Str.length]
theorem name_of {x : Str} {cs : List Nat} (e : x.cps.toList = cs) (h1 : 1 ≤ cs.length) (h2 : cs.length ≤ 8) (h : ∀ c ∈ cs, isLow c = true) : isNameS x = true := by
  have l := len_toList x
  rw [e] at l
  unfold isNameS
  rw [e, decide_eq_true (show (1 : Int) ≤ x.length by omega), decide_eq_true (show (x.length : Int) ≤ 8 by omega), List.all_eq_true.mpr h]
  rfl
def isOne (w : Str) : Prop := ∃ c, w = ⟨#[c]⟩ ∧ isLow c = true
theorem join_ones : ∀ {ws : List Str}, (∀ w ∈ ws, isOne w) → ∃ cs : List Nat, (ws.flatMap fun w => w.cps.toList) = cs ∧ cs.length = ws.length ∧ ∀ c ∈ cs, isLow c = true
  | [], _ => ⟨[], rfl, rfl, by simp⟩
  | w :: r, h => by
    obtain ⟨c, rfl, hc⟩ := h w (List.mem_cons_self ..)
    obtain ⟨cs, e, l, ha⟩ := join_ones fun w hw => h w (List.mem_cons_of_mem _ hw)
    refine ⟨c :: cs, ?_, by simp [l], ?_⟩
    · rw [List.flatMap_cons, e]; rfl
    · intro d hd
      rcases List.mem_cons.mp hd with rfl | hd
      · exact hc
      · exact ha d hd
abbrev abc : Str := "abcdefghijklmnopqrstuvwxyz"
theorem abc_get (i : Nat) (h : i < 26) : abc.cps.toList[i]? = some (97 + i) := by
  have : ∀ i < 26, abc.cps.toList[i]? = some (97 + i) := by decide +kernel
  exact this i h
theorem low_of {i : Nat} (h : i < 26) : isLow (97 + i) = true := by
  unfold isLow
  rw [decide_eq_true (show 97 ≤ 97 + i by omega), decide_eq_true (show 97 + i ≤ 122 by omega)]; rfl
/-- pigeons -/
theorem pigeon : ∀ {ws us : List Str}, ws.Nodup → (∀ w ∈ ws, w ∈ us) → ws.length ≤ us.length
  | [], _, _, _ => Nat.zero_le _
  | w :: ws, us, nd, h => by
    have hw := h w (List.mem_cons_self ..)
    rw [List.nodup_cons] at nd
    have ih := pigeon (us := us.erase w) nd.2 fun x hx => (List.mem_erase_of_ne (fun e : x = w => nd.1 (by rw [← e]; exact hx))).mpr (h x (List.mem_cons_of_mem _ hx))
    rw [List.length_erase_of_mem hw] at ih
    have : 0 < us.length := List.length_pos_of_mem hw
    rw [List.length_cons]
    omega
def spare (i : Nat) : Str := ⟨#[97 + i / 26, 97 + i % 26, 113]⟩
theorem spare_nd : ((List.range 20).map spare).Nodup := by decide +kernel
theorem spare_name (i : Nat) (h : i < 676) : isNameS (spare i) = true := by
  refine name_of (x := spare i) (cs := [97 + i / 26, 97 + i % 26, 113]) rfl (by simp) (by simp) fun c hc => ?_
  simp only [List.mem_cons, List.not_mem_nil, or_false] at hc
  rcases hc with rfl | rfl | rfl
  · exact low_of (by omega)
  · exact low_of (by omega)
  · rfl
theorem spare_free {us : List Str} (h : us.length ≤ 10) : ∃ i, i < 20 ∧ spare i ∉ us := by
  refine Classical.byContradiction fun n => ?_
  have all : ∀ w ∈ (List.range 20).map spare, w ∈ us := fun w hw => by
    obtain ⟨i, hi, rfl⟩ := List.mem_map.mp hw
    exact Classical.byContradiction fun z => n ⟨i, List.mem_range.mp hi, z⟩
  have := pigeon spare_nd all
  rw [List.length_map, List.length_range] at this
  omega
theorem inV_mem {z : Str} {us : List Str} : inV (.str z) (us.map V.str) = true ↔ z ∈ us := by
  rw [inV_strs, List.any_eq_true]
  constructor
  · rintro ⟨x, hx, e⟩
    rw [beq_iff_eq] at e
    exact e ▸ hx
  · intro h
    exact ⟨z, h, beq_self_eq_true z⟩
theorem Drew.mut {p D : Addr} {H H' : Hp} {o : HO} (d : Drew p H H') (hD : H D = none) (n : D ≠ p) : Drew p H (upd H' D o) := by
  refine ⟨fun a u h => ?_, ?_⟩
  · have hn := (wo_some h).1
    have hD' : a ≠ D := ne_of_none (wo_some h).2 hD
    have q := d.ex a u h
    rw [wo_ne hn] at q ⊢
    rw [upd_ne hD']
    exact q
  · obtain ⟨x, y, z, r⟩ := d.pot
    exact ⟨x, y, by rw [upd_ne n.symm]; exact z, r⟩
theorem Drew.neq {p q : Addr} {H H' : Hp} (d : Drew p H H') (h : H' q = none) : q ≠ p := fun e => by
  obtain ⟨x, y, z, _⟩ := d.pot
  rw [← e, h] at z
  cases z

/-- a name that is not among the used ones -/
def spName : Sp := fun vs H Q _ => ∃ (p u : Addr) (us : List Str), vs = [.ref p, .ref u] ∧ Pot H p ∧ u ≠ p ∧ H u = some (.lst (us.map V.str)) ∧ us.length ≤ 10 ∧ ∀ x H', isNameS x = true → Drew p H H' → Q (.str x) H'
def spNames : Sp := fun vs H Q _ => ∃ (p : Addr) (n : Nat), vs = [.ref p, .int (n : Int)] ∧ Pot H p ∧ n ≤ 10 ∧
  ∀ (l : Addr) (xs : List Str) (H' : Hp), H l = none → H' l = some (.lst (xs.map V.str)) → xs.length = n → (∀ x ∈ xs, isNameS x = true) → Drew p H H' → Q (.ref l) H'
section
variable {P : Program} {w : World} {K : PySem.W.Frag} {mg : Str → Option Value} {base : Heap}
theorem ok_name {f : Addr} {fd : FuncData} {k : Nat} (F : Fun K "_law_name" "_law_name" sName f fd) (B : Blt mg) (D : Has P w K mg base k "_law_draw" ["_law_pot_here", "_law_most"] spDraw) :
    FnG P w K mg base CX0 (k + 1) f fd ["_law_pot_here", "_law_used"] spName := by
  obtain ⟨fD, fdD, GD, bD, kD, gD⟩ := D.ex
  refine okG F scName (fun vs H Q E h => by obtain ⟨_, _, _, rfl, _⟩ := h; rfl) (fun cdv A outer s H vs Q E hq hr h => ?_)
  obtain ⟨p, u, us, rfl, pot, un, hu, hl, q⟩ := h
  refine ⟨_, pss_cons (ps_set (i := 2) scName.nd rfl (.inr rfl) pe_str)
    (pss_cons (ps_set (i := 3) scName.nd rfl (.inl rfl) (pe_ix ix_list (pe_lst (pa_cons pe_int (pa_cons pe_int (pa_cons pe_int (pa_cons pe_int (pa_cons (pe_op op_add pe_int (callG GD hq hr (by rfl) gD kD bD .nil pass0 (pa_cons (pv 0) (pa_cons pe_int pa_nil)))) pa_nil))))))
        (callG GD hq hr (by rfl) gD kD bD .nil pass0 (pa_cons (pv 0) (pa_cons pe_int pa_nil))) (fun _ _ => rfl)))
    (pss_cons (ps_set (i := 4) scName.nd rfl (.inl rfl) (pe_join pe_str (pe_lc (own := [("_law_turn", 6)]) (g := gName 6) (tt := tYes) rfl scName.nd (pi_range1 (by rfl) B.range (pa_cons (pv 3) pa_nil)) (blkOk_by (own := [("_law_turn", 6)]) (N := nName) (sc := defScope sName) (by decide +kernel))
        (fun _ _ _ _ _ => pg_name (i := 6) scName.nd rfl (Or.inl rfl)) (fun _ _ _ _ _ => pts_nil) (fun _ _ _ _ _ => pe_ix ix_str (pv 2) (callG GD hq hr (by rfl) gD kD bD .nil pass0 (pa_cons (pv 0) (pa_cons pe_int pa_nil))) (fun _ _ => rfl)))))
    (pss_cut (ps_if (pt_cmpR op_eq (callG GD hq hr (by rfl) gD kD bD .nil pass0 (pa_cons (pv 0) (pa_cons pe_int pa_nil))) pe_int (nomark _))
        (pss_one (ps_set (i := 4) scName.nd rfl (.inl rfl) (pe_ix ix_list (pe_lst (pa_cons pe_str (pa_cons pe_str (pa_cons pe_str (pa_cons pe_str (pa_cons pe_str (pa_cons pe_str (pa_cons pe_str (pa_cons pe_str pa_nil)))))))))
          (callG GD hq hr (by rfl) gD kD bD .nil pass0 (pa_cons (pv 0) (pa_cons pe_int pa_nil))) (fun _ _ => rfl)))) pss_nil)
    (pss_cons (ps_if (pt_cmpR op_notIn_seq (pv 4) (pv 1) (by rfl)) (pss_one (ps_ret (pv 4))) pss_nil)
    (pss_cons (ps_setLc (i := 5) (own := [("_law_at", 7)]) (g := gName 7) (tt := tYes) rfl scName.nd rfl rfl (sw_true rfl rfl rfl (by decide +kernel)) (pi_range1 (by rfl) B.range (pa_cons pe_int pa_nil)) (blkOk_by (own := [("_law_at", 7)]) (N := nName) (sc := defScope sName) (by decide +kernel))
        (fun _ _ _ _ _ => pg_name (i := 7) scName.nd rfl (Or.inl rfl)) (fun _ _ _ _ _ => pts_nil)
        (fun _ _ _ _ _ => pe_op op_add_str (pe_op op_add_str (pe_ix ix_str (pv 2) (pe_op op_fdiv (pv 7) pe_int) (fun _ _ => rfl)) (pe_ix ix_str (pv 2) (pe_op op_mod (pv 7) pe_int) (fun _ _ => rfl))) pe_str))
    (pss_one (ps_ret (pe_ix ix_list (pe_lc (own := [("_law_one", 8)]) (g := gName 8) (tt := tTest (tOp (rIn K true) (tVar 8) (tVar 1))) rfl scName.nd (pi_list (pv 5)) (blkOk_by (own := [("_law_one", 8)]) (N := nName) (sc := defScope sName) (by decide +kernel))
        (fun _ _ _ _ _ => pg_name (i := 8) scName.nd rfl (Or.inl rfl)) (fun _ _ _ _ _ => by exact pts_one (pt_cmpR op_notIn_seq (pv 8) (pv 1) (by rfl))) (fun _ _ _ _ _ => pv 8)) pe_int (fun _ _ => rfl))))))))), ?_⟩
  -- the size
  refine ⟨.ref p, rfl, p, 8, rfl, by decide, by decide +kernel, pot, fun d1 H1 a1 b1 r1 => ?_⟩
  refine ⟨1, d1, rfl, rfl, by show 5 ≤ sizeLine; decide, fun o ho => ?_⟩
  have on : o ≠ p := r1.neq ho
  have r2 := r1.trans (Drew.of r1.pot (Ex.new (o := .lst [.int 1, .int 1, .int 2, .int 8, .int (1 + d1)]) ho))
  refine ⟨.ref p, rfl, p, 5, rfl, by decide, by decide +kernel, r2.pot, fun d2 H2 a2 b2 r3 => ?_⟩
  obtain ⟨sz, hsz, s1, s8⟩ : ∃ sz : Nat, atI [V.int 1, V.int 1, V.int 2, V.int 8, V.int (1 + d1)] d2 = some (.int (sz : Int)) ∧ 1 ≤ sz ∧ sz ≤ 8 := by
    obtain ⟨j, rfl⟩ := Int.eq_ofNat_of_zero_le a2
    have hj : j = 0 ∨ j = 1 ∨ j = 2 ∨ j = 3 ∨ j = 4 := by omega
    rcases hj with rfl | rfl | rfl | rfl | rfl
    · exact ⟨1, atI_nat rfl, by omega, by omega⟩
    · exact ⟨1, atI_nat rfl, by omega, by omega⟩
    · exact ⟨2, atI_nat rfl, by omega, by omega⟩
    · exact ⟨8, atI_nat rfl, by omega, by omega⟩
    · refine ⟨(1 + d1).toNat, atI_nat (v := V.int (1 + d1)) rfl |>.trans ?_, by omega, by omega⟩
      congr 2; omega
  refine ⟨o, _, d2, .int sz, rfl, rfl, sq_of (r3.at on upd_same), hsz, ?_⟩
  have r13 := r2.trans r3
  -- the letters
  refine ⟨⟨"", rfl⟩, .int sz, rfl, sz, rfl, by omega, by omega, fun D hD => ?_⟩
  have Dn : D ≠ p := r13.neq hD
  have HD : H D = none := fresh_drew r13 pot hD
  refine lc_range (lo := 0) (n := (sz : Int).toNat) (fun i H3 => ∃ ws : List Str, H3 D = some (.lst (ws.map V.str)) ∧ ws.length = i ∧ (∀ w ∈ ws, isOne w) ∧ Drew p H H3)
    ⟨[], upd_same, rfl, by simp, r13.mut HD Dn⟩ (fun i H3 hi hP => ?_) (fun H3 hP => ?_)
  · obtain ⟨ws, hw, hlw, hone, dr⟩ := hP
    refine ⟨rfl, .str abc, rfl, .ref p, rfl, p, 26, rfl, by decide, by decide +kernel, dr.pot, fun d H4 da db dr4 => ?_⟩
    obtain ⟨j, rfl⟩ := Int.eq_ofNat_of_zero_le da
    have hj : j < 26 := by omega
    refine ⟨abc, (j : Int), 97 + j, rfl, rfl, by decide +kernel, atI_nat (abc_get j hj), ws.map V.str, dr4.at Dn hw, sz_lt (by rw [List.length_map]; omega), ws ++ [⟨#[97 + j]⟩], ?_, by simp [hlw], ?_, (dr.trans dr4).mut HD Dn⟩
    · rw [upd_same, List.map_append]; rfl
    · intro w hw'
      rcases List.mem_append.mp hw' with z | z
      · exact hone w z
      · rw [List.mem_singleton.mp z]
        exact ⟨97 + j, rfl, low_of hj⟩
  obtain ⟨ws, hw, hlw, hone, dr⟩ := hP
  obtain ⟨cs, ecs, lcs, hcs⟩ := join_ones hone
  have nm : isNameS (Txt.join "" ws) = true := name_of ((join_cps ws).trans ecs) (by omega) (by omega) hcs
  have lone : ∀ {ws : List Str}, (∀ w ∈ ws, isOne w) → (ws.map (·.length)).sum = ws.length := by
    intro ws
    induction ws with
    | nil => intro _; rfl
    | cons x r ih =>
      intro h
      obtain ⟨c, rfl, _⟩ := h _ (List.mem_cons_self ..)
      rw [List.map_cons, List.sum_cons, ih fun w hw => h w (List.mem_cons_of_mem _ hw), List.length_cons]
      show 1 + r.length = r.length + 1
      omega
  refine ⟨"", D, ws, rfl, rfl, .inl (sq_of hw), ?_, ?_⟩
  · have e0 : (("" : Str)).length = 0 := by decide +kernel
    rw [lone hone, e0]
    omega
  -- another word, perhaps
  refine q_cut (M := fun σ H4 => ∃ x : Str, isNameS x = true ∧ σ = [some (.ref p), some (.ref u), some (.str abc), some (.int sz), some (.str x), none, none, none, none] ∧ Drew p H H4) ?_ ?_
  · refine ⟨.ref p, rfl, p, 12, rfl, by decide, by decide +kernel, dr.pot, fun d H4 da db dr4 => ?_⟩
    refine ⟨rfl, _, rfl, ite2 (fun _ => ?_) (fun _ => ⟨_, nm, rfl, dr.trans dr4⟩)⟩
    refine ⟨by show 8 ≤ sizeLine; decide, fun o2 ho2 => ?_⟩
    have on2 : o2 ≠ p := (dr.trans dr4).neq ho2
    have d5 := (dr.trans dr4).trans (Drew.of (dr.trans dr4).pot (Ex.new (o := .lst [.str "module", .str "need", .str "try", .str "set", .str "a", .str "b", .str "fail", .str "thread"]) ho2))
    refine ⟨.ref p, rfl, p, 8, rfl, by decide, by decide +kernel, d5.pot, fun d' H5 da' db' dr5 => ?_⟩
    obtain ⟨j, rfl⟩ := Int.eq_ofNat_of_zero_le da'
    have hj : j = 0 ∨ j = 1 ∨ j = 2 ∨ j = 3 ∨ j = 4 ∨ j = 5 ∨ j = 6 ∨ j = 7 := by omega
    have h5 := sq_of (K := K) (dr5.at on2 upd_same)
    have d6 := d5.trans dr5
    rcases hj with rfl | rfl | rfl | rfl | rfl | rfl | rfl | rfl
    · exact ⟨o2, _, _, .str "module", rfl, rfl, h5, atI_nat (j := 0) rfl, "module", by decide +kernel, rfl, d6⟩
    · exact ⟨o2, _, _, .str "need", rfl, rfl, h5, atI_nat (j := 1) rfl, "need", by decide +kernel, rfl, d6⟩
    · exact ⟨o2, _, _, .str "try", rfl, rfl, h5, atI_nat (j := 2) rfl, "try", by decide +kernel, rfl, d6⟩
    · exact ⟨o2, _, _, .str "set", rfl, rfl, h5, atI_nat (j := 3) rfl, "set", by decide +kernel, rfl, d6⟩
    · exact ⟨o2, _, _, .str "a", rfl, rfl, h5, atI_nat (j := 4) rfl, "a", by decide +kernel, rfl, d6⟩
    · exact ⟨o2, _, _, .str "b", rfl, rfl, h5, atI_nat (j := 5) rfl, "b", by decide +kernel, rfl, d6⟩
    · exact ⟨o2, _, _, .str "fail", rfl, rfl, h5, atI_nat (j := 6) rfl, "fail", by decide +kernel, rfl, d6⟩
    · exact ⟨o2, _, _, .str "thread", rfl, rfl, h5, atI_nat (j := 7) rfl, "thread", by decide +kernel, rfl, d6⟩
  rintro σ H4 ⟨x, nx, rfl, d4⟩
  have hu4 := d4.at un hu
  refine q_when (et_test (ev_op (ev_var rfl) (ev_var rfl) (rv_niL (sq_of hu4) rfl (flat_strs _)))) (fun hb H5 e5 => s_ret (ev_var rfl) fun H6 e6 => q x H6 nx (d4.trans (Drew.of d4.pot (e5.trans e6)))) (fun hb H5 e5 => ?_)
  -- the spare ones
  have fd : (676 : Int).toNat = 676 := rfl
  have lc1 := el_lcW (wi := iRng1 (tCons (tC (.int 676)) tNil)) (g := gName 7) (tt := tYes) (te := tOp _ (tOp _ (tOp rIxS (tVar 2) (tOp (rI CDiv fun i j => .int (i / j)) (tVar 7) (tC (.int 26)))) (tOp rIxS (tVar 2) (tOp (rI (fun _ j => 0 < j) fun i j => .int (i % j)) (tVar 7) (tC (.int 26))))) (tC (.str "q"))) (vs := [7])
    (σ := [some (.ref p), some (.ref u), some (.str abc), some (.int sz), some (.str x), none, none, none, none]) (H := H5) (n := 676) (Y := YFn fun i => .int (0 + i)) (fun _ => true) (fun i => .str (spare i)) (by decide)
    (fun H6 e6 R r => ⟨676, rfl, by decide, by decide, r H6 _ _ walk_range (fun _ _ _ z => z) (Ex.refl H6) trivial⟩)
    (fun i y H6 H7 e6 hi hy => by
      obtain ⟨rfl, rfl⟩ := hy
      refine ⟨Ex.refl _, [some (.ref p), some (.ref u), some (.str abc), some (.int sz), some (.str x), none, none, some (.int (0 + i)), none], rfl, fun R r => r, fun H8 _ Q q => q H8 (Ex.refl H8), fun _ => ?_⟩
      have e0 : (0 : Int) + (i : Int) = (i : Int) := Int.zero_add _
      rw [e0]
      have ed : ((i : Int) / 26) = ((i / 26 : Nat) : Int) := by omega
      have em : ((i : Int) % 26) = ((i % 26 : Nat) : Int) := by omega
      have i1 : i / 26 < 26 := by omega
      have i2 : i % 26 < 26 := by omega
      refine ev_op (r := fun x y H Q => ∃ i j, x = .str i ∧ y = .str j ∧ i.length + j.length ≤ sizeLine ∧ Q (.str (i ++ j)) H) (x := .str (⟨#[97 + i / 26]⟩ ++ ⟨#[97 + i % 26]⟩))
        (ev_op (r := fun x y H Q => ∃ i j, x = .str i ∧ y = .str j ∧ i.length + j.length ≤ sizeLine ∧ Q (.str (i ++ j)) H)
          (ev_op (ev_var rfl) (ev_op (ev_var rfl) ev_c (rv_I ⟨by decide, by decide⟩)) (rv_ixS (by decide +kernel) (by rw [ed]; exact atI_nat (abc_get _ i1))))
          (ev_op (ev_var rfl) (ev_op (ev_var rfl) ev_c (rv_I (C := fun _ j => 0 < j) (by decide))) (rv_ixS (by decide +kernel) (by rw [em]; exact atI_nat (abc_get _ i2))))
          (rv_val fun H8 _ Q q => ⟨_, _, rfl, rfl, by show 2 ≤ sizeLine; decide, q⟩)) ev_c (rv_val fun H8 _ Q q => ⟨_, _, rfl, rfl, by show 3 ≤ sizeLine; decide, q⟩))
  have eg1 : given 676 (fun _ => true) (fun i => V.str (spare i)) = ((List.range 676).map spare).map V.str := by
    rw [given_all, List.map_map]; rfl
  rw [eg1] at lc1
  refine q_asgL lc1 fun L H6 hL e6 h6 => ?_
  have hu6 := e6 _ _ (e5 _ _ hu4)
  have lc2 := el_lcW (wi := iList K (tVar 5)) (g := gName 8) (tt := tTest (tOp (rIn K true) (tVar 8) (tVar 1))) (te := tVar 8) (vs := [8])
    (σ := [some (.ref p), some (.ref u), some (.str abc), some (.int sz), some (.str x), some (.ref L), none, none, none]) (H := H6) (n := 676) (Y := YAt (((List.range 676).map spare).map V.str)) (fun i => !inV (.str (spare i)) (us.map V.str)) (fun i => .str (spare i)) (by decide)
    (fun H7 e7 R r => ⟨.ref L, rfl, L, rfl, ⟨_, sq_of (e7 _ _ h6)⟩, r H7 _ _ (by have z := walk_list (K := K) (a := L) (xs := ((List.range 676).map spare).map V.str); rw [List.length_map, List.length_map, List.length_range] at z; exact z) (fun _ _ e z => ex_l e z) (Ex.refl H7) (sq_of (e7 _ _ h6))⟩)
    (fun i y H7 H8 e7 hi hy => by
      obtain ⟨rfl, hy⟩ := hy
      have ey : y = .str (spare i) := by
        rw [List.getElem?_map, List.getElem?_map, List.getElem?_range hi] at hy
        exact (Option.some.inj hy).symm
      subst ey
      exact ⟨Ex.refl _, [some (.ref p), some (.ref u), some (.str abc), some (.int sz), some (.str x), some (.ref L), none, none, some (.str (spare i))], rfl, fun R r => r, et_test (ev_op (ev_var rfl) (ev_var rfl) (rv_niL (sq_of (e7 _ _ hu6)) rfl (flat_strs _))), fun _ => ev_var rfl⟩)
  obtain ⟨i0, hi0, fi0⟩ := spare_free hl
  have mem : V.str (spare i0) ∈ given 676 (fun i => !inV (.str (spare i)) (us.map V.str)) (fun i => .str (spare i)) := by
    unfold given
    refine List.mem_map.mpr ⟨i0, List.mem_filter.mpr ⟨List.mem_range.mpr (by omega), ?_⟩, rfl⟩
    rw [Bool.not_eq_true']
    exact Bool.eq_false_iff.mpr fun z => fi0 (inV_mem.mp z)
  cases eg : given 676 (fun i => !inV (.str (spare i)) (us.map V.str)) (fun i => V.str (spare i)) with
  | nil => rw [eg] at mem; cases mem
  | cons y r =>
    have hy : y ∈ given 676 (fun i => !inV (.str (spare i)) (us.map V.str)) (fun i => V.str (spare i)) := by rw [eg]; exact List.mem_cons_self ..
    unfold given at hy
    obtain ⟨i1, h1, rfl⟩ := List.mem_map.mp hy
    have hi1 : i1 < 676 := List.mem_range.mp (List.mem_filter.mp h1).1
    rw [eg] at lc2
    refine s_ret (ev_opL1 lc2 (fun _ _ => ev_c) fun p2 H7 hp2 _ => rv_ixL (sq_of hp2) (atI_nat (j := 0) rfl)) fun H7 e7 => ?_
    exact q _ H7 (spare_name i1 hi1) (d4.trans (Drew.of d4.pot ((e5.trans e6).trans e7)))
end
end Cr
namespace Cr
open PySem PySem.Spec PyProof.Rows L2 Evl
abbrev sStep : Stmt := topS 20
abbrev nStep : List Str := ["_law_pot_here", "_law_modules", "_law_names_here", "_law_after", "_law_word", "_law_x", "_law_y", "_law_module", "_law_name_here", "_law_steps"]
theorem scStep : FnScope nStep ["_law_pot_here", "_law_modules", "_law_names_here", "_law_after"] (defScope sStep) := ⟨rfl, rfl, rfl, by decide +kernel, rfl, by decide +kernel, by decide +kernel⟩
/-! ### flat values -/
def flD : V → PyData
  | .bl b => .bool b
  | .int i => .int i
  | .str x => .str x
  | _ => .none
theorem dt_flat {H : Hp} {v : V} (h : flatV v = true) : Dt H v (flD v) := by
  cases v with
  | non => exact .non
  | bl b => exact .bl b
  | int i => exact .int i
  | str x => exact .str x
  | _ => exact absurd h (fun z => nomatch z)
theorem dtAll_flat {H : Hp} : ∀ {xs : List V}, xs.all flatV = true → DtAll H xs (xs.map flD)
  | [], _ => .nil
  | x :: r, h => by
    rw [List.all_cons, Bool.and_eq_true] at h
    exact .cons (dt_flat h.1) (dtAll_flat h.2)
def leafOk : V → Bool
  | .non => true
  | .bl _ => true
  | .int i => decide (i.natAbs ≤ 10 ^ 30)
  | .str x => decide (x.length ≤ 9) && x.cps.toList.all fun c => decide (c < 128)
  | _ => false
theorem leaf_flat {v : V} (h : leafOk v = true) : flatV v = true := by
  cases v <;> first | rfl | exact absurd h (fun z => nomatch z)
theorem leaf_name {x : Str} (h : isNameS x = true) : leafOk (.str x) = true := by
  unfold isNameS at h
  simp only [Bool.and_eq_true, decide_eq_true_eq] at h
  show (decide (x.length ≤ 9) && x.cps.toList.all fun c => decide (c < 128)) = true
  rw [decide_eq_true (show x.length ≤ 9 by omega), Bool.true_and]
  refine List.all_eq_true.mpr fun c hc => ?_
  have z := List.all_eq_true.mp h.2 c hc
  unfold isLow at z
  simp only [Bool.and_eq_true, decide_eq_true_eq] at z
  exact decide_eq_true (by omega)
theorem var_cases {x : Str} (h : isVar (.str x) = true) : x = "a" ∨ x = "b" ∨ x = "c" ∨ x = "d" := by
  have z : (vars4.any fun y => y == x) = true := h
  simp only [vars4, List.any_cons, List.any_nil, Bool.or_false, Bool.or_eq_true, beq_iff_eq] at z
  rcases z with z | z | z | z
  · exact .inl z.symm
  · exact .inr (.inl z.symm)
  · exact .inr (.inr (.inl z.symm))
  · exact .inr (.inr (.inr z.symm))
theorem leaf_var {x : Str} (h : isVar (.str x) = true) : leafOk (.str x) = true := by
  rcases var_cases h with rfl | rfl | rfl | rfl <;> decide +kernel
theorem var_of {c : Nat} (h : c ∈ (("abcd" : Str)).cps.toList) : isVar (.str ⟨#[c]⟩) = true := by
  have e : (("abcd" : Str)).cps.toList = [97, 98, 99, 100] := by decide +kernel
  rw [e] at h
  simp only [List.mem_cons, List.not_mem_nil, or_false] at h
  rcases h with rfl | rfl | rfl | rfl <;> decide +kernel
/-! ### the steps -/
theorem isStep_eq {z : Str} {ks : List Str} {ds : List PyData} (h : shapeOf z = some ks) : isStep (.tuple (.str z :: ds)) = (decide (ds.length = ks.length) && stepItems ds ks) := by
  show (match shapeOf z with | some ks => (decide (ds.length = ks.length) && stepItems ds ks) | none => false) = _
  rw [h]
theorem it_var (d : PyData) : isItem d "variable" = isVar d := if_pos rfl
theorem it_int (d : PyData) : isItem d "integer" = isInteger d := by
  unfold isItem
  rw [if_neg (by decide +kernel), if_pos rfl]
theorem it_len (d : PyData) : isItem d "length" = (isInteger d && atLeast 1 d) := by
  unfold isItem
  rw [if_neg (by decide +kernel), if_neg (by decide +kernel), if_pos rfl]
theorem it_name (d : PyData) : isItem d "name" = isName d := by
  unfold isItem
  rw [if_neg (by decide +kernel), if_neg (by decide +kernel), if_neg (by decide +kernel)]
theorem it_mod (d : PyData) : isItem d "module" = isName d := by
  unfold isItem
  rw [if_neg (by decide +kernel), if_neg (by decide +kernel), if_neg (by decide +kernel)]
theorem items1 (d : PyData) (k : Str) : stepItems [d] [k] = isItem d k := by
  show (isItem d k && true) = _
  rw [Bool.and_true]
theorem items2 (d d' : PyData) (k k' : Str) : stepItems [d, d'] [k, k'] = (isItem d k && isItem d' k') := by
  show (isItem d k && (isItem d' k' && true)) = _
  rw [Bool.and_true]
theorem items3 (d d' d'' : PyData) (k k' k'' : Str) : stepItems [d, d', d''] [k, k', k''] = (isItem d k && (isItem d' k' && isItem d'' k'')) := by
  show (isItem d k && (isItem d' k' && (isItem d'' k'' && true))) = _
  rw [Bool.and_true]
theorem sh_set : shapeOf "set" = some (["variable", "integer"] : List Str) := by decide +kernel
theorem sh_add : shapeOf "add" = some (["variable", "variable"] : List Str) := by decide +kernel
theorem sh_skip : shapeOf "skip" = some (["variable", "length"] : List Str) := by decide +kernel
theorem sh_export : shapeOf "export" = some (["name", "variable"] : List Str) := by decide +kernel
theorem sh_read : shapeOf "read" = some (["variable", "module", "name"] : List Str) := by decide +kernel
theorem sh_need : shapeOf "need" = some (["module"] : List Str) := by decide +kernel
theorem sh_try : shapeOf "try" = some (["module", "variable"] : List Str) := by decide +kernel
theorem sh_fail : shapeOf "fail" = some ([] : List Str) := by decide +kernel
structure StepOk (xs : List V) : Prop where
  leaf : xs.all leafOk = true
  one : 1 ≤ xs.length
  four : xs.length ≤ 4
  step : isStep (.tuple (xs.map flD)) = true
theorem StepOk.flat {xs : List V} (h : StepOk xs) : xs.all flatV = true := List.all_eq_true.mpr fun v hv => leaf_flat (List.all_eq_true.mp h.leaf v hv)
theorem kinds_leaf : ∀ z ∈ (["set", "add", "skip", "export", "read", "need", "try", "fail"] : List Str), leafOk (.str z) = true := by decide +kernel
theorem st_set {x : Str} {n : Int} (hx : isVar (.str x) = true) (hn : n.natAbs ≤ 10 ^ 30) : StepOk [.str "set", .str x, .int n] where
  leaf := by
    rw [List.all_cons, List.all_cons, List.all_cons, kinds_leaf "set" (by decide +kernel), leaf_var hx]
    show (true && (true && (decide (n.natAbs ≤ 10 ^ 30) && true))) = true
    rw [decide_eq_true hn]
    rfl
  one := by show 1 ≤ 3; decide
  four := by show 3 ≤ 4; decide
  step := by
    rw [show ([V.str "set", V.str x, V.int n].map flD) = [.str "set", .str x, .int n] from rfl, isStep_eq sh_set, items2, it_var, it_int, hx]
    rfl
theorem st_add {x y : Str} (hx : isVar (.str x) = true) (hy : isVar (.str y) = true) : StepOk [.str "add", .str x, .str y] where
  leaf := by
    rw [List.all_cons, List.all_cons, List.all_cons, kinds_leaf "add" (by decide +kernel), leaf_var hx, leaf_var hy]
    rfl
  one := by show 1 ≤ 3; decide
  four := by show 3 ≤ 4; decide
  step := by
    rw [show ([V.str "add", V.str x, V.str y].map flD) = [.str "add", .str x, .str y] from rfl, isStep_eq sh_add, items2, it_var, it_var, hx, hy]
    rfl
theorem st_skip {x : Str} {n : Int} (hx : isVar (.str x) = true) (h1 : 1 ≤ n) (hn : n.natAbs ≤ 10 ^ 30) : StepOk [.str "skip", .str x, .int n] where
  leaf := by
    rw [List.all_cons, List.all_cons, List.all_cons, kinds_leaf "skip" (by decide +kernel), leaf_var hx]
    show (true && (true && (decide (n.natAbs ≤ 10 ^ 30) && true))) = true
    rw [decide_eq_true hn]
    rfl
  one := by show 1 ≤ 3; decide
  four := by show 3 ≤ 4; decide
  step := by
    rw [show ([V.str "skip", V.str x, V.int n].map flD) = [.str "skip", .str x, .int n] from rfl, isStep_eq sh_skip, items2, it_var, it_len, hx]
    show (decide (2 = 2) && (true && (isInteger (.int n) && decide (1 ≤ n)))) = true
    rw [decide_eq_true h1]
    rfl
theorem st_need {m : Str} (hm : isNameS m = true) : StepOk [.str "need", .str m] where
  leaf := by
    rw [List.all_cons, List.all_cons, kinds_leaf "need" (by decide +kernel), leaf_name hm]
    rfl
  one := by show 1 ≤ 2; decide
  four := by show 2 ≤ 4; decide
  step := by
    rw [show ([V.str "need", V.str m].map flD) = [.str "need", .str m] from rfl, isStep_eq sh_need, items1, it_mod]
    exact hm
theorem st_export {m x : Str} (hm : isNameS m = true) (hx : isVar (.str x) = true) : StepOk [.str "export", .str m, .str x] where
  leaf := by
    rw [List.all_cons, List.all_cons, List.all_cons, kinds_leaf "export" (by decide +kernel), leaf_name hm, leaf_var hx]
    rfl
  one := by show 1 ≤ 3; decide
  four := by show 3 ≤ 4; decide
  step := by
    rw [show ([V.str "export", V.str m, V.str x].map flD) = [.str "export", .str m, .str x] from rfl, isStep_eq sh_export, items2, it_name, it_var, hx, show isName (.str m) = true from hm]
    rfl
theorem st_try {m x : Str} (hm : isNameS m = true) (hx : isVar (.str x) = true) : StepOk [.str "try", .str m, .str x] where
  leaf := by
    rw [List.all_cons, List.all_cons, List.all_cons, kinds_leaf "try" (by decide +kernel), leaf_name hm, leaf_var hx]
    rfl
  one := by show 1 ≤ 3; decide
  four := by show 3 ≤ 4; decide
  step := by
    rw [show ([V.str "try", V.str m, V.str x].map flD) = [.str "try", .str m, .str x] from rfl, isStep_eq sh_try, items2, it_mod, it_var, hx, show isName (.str m) = true from hm]
    rfl
theorem st_read {x m n : Str} (hx : isVar (.str x) = true) (hm : isNameS m = true) (hn : isNameS n = true) : StepOk [.str "read", .str x, .str m, .str n] where
  leaf := by
    rw [List.all_cons, List.all_cons, List.all_cons, List.all_cons, kinds_leaf "read" (by decide +kernel), leaf_name hm, leaf_name hn, leaf_var hx]
    rfl
  one := by show 1 ≤ 4; decide
  four := by show 4 ≤ 4; decide
  step := by
    rw [show ([V.str "read", V.str x, V.str m, V.str n].map flD) = [.str "read", .str x, .str m, .str n] from rfl, isStep_eq sh_read, items3, it_var, it_mod, it_name, hx, show isName (.str m) = true from hm, show isName (.str n) = true from hn]
    rfl
theorem st_fail : StepOk [.str "fail"] where
  leaf := by rw [List.all_cons, kinds_leaf "fail" (by decide +kernel)]; rfl
  one := by show 1 ≤ 1; decide
  four := by show 1 ≤ 4; decide
  step := by
    rw [show ([V.str "fail"].map flD) = [.str "fail"] from rfl, isStep_eq sh_fail]
    rfl

/-- one step over drawn names -/
def spStep : Sp := fun vs H Q _ => ∃ (p m nm : Addr) (ms ns : List Str) (a : Nat), vs = [.ref p, .ref m, .ref nm, .int (a : Int)] ∧ Pot H p ∧ m ≠ p ∧ nm ≠ p ∧ H m = some (.lst (ms.map V.str)) ∧ H nm = some (.lst (ns.map V.str)) ∧
  (0 < ms.length ∧ ms.length ≤ 10 ∧ 0 < ns.length ∧ ns.length ≤ 10 ∧ (∀ x ∈ ms, isNameS x = true) ∧ (∀ x ∈ ns, isNameS x = true) ∧ a ≤ 1000) ∧
  ∀ (t : Addr) (xs : List V) (H' : Hp), H t = none → H' t = some (.tup xs) → StepOk xs → Drew p H H' → Q (.ref t) H'
section
variable {P : Program} {w : World} {K : PySem.W.Frag} {mg : Str → Option Value} {base : Heap}
theorem ok_names {f : Addr} {fd : FuncData} {k : Nat} (F : Fun K "_law_names" "_law_names" sNames f fd) (B : Blt mg) (N : Has P w K mg base k "_law_name" ["_law_pot_here", "_law_used"] spName) :
    FnG P w K mg base CX0 (k + 1) f fd ["_law_pot_here", "_law_number"] spNames := by
  obtain ⟨fN, fdN, GN, bN, kN, gN⟩ := N.ex
  refine okG F scNames (fun vs H Q E h => by obtain ⟨_, _, rfl, _⟩ := h; rfl) (fun cdv A outer s H vs Q E hq hr h => ?_)
  obtain ⟨p, n, rfl, pot, hn, q⟩ := h
  refine ⟨_, pss_cons (ps_set (i := 2) scNames.nd rfl (.inl rfl) (pe_lst pa_nil))
    (pss_cons (ps_for PassesOwn.never rfl (pi_range1 (by rfl) B.range (pa_cons (pv 1) pa_nil)) (pg_name (i := 3) scNames.nd rfl (.inl rfl))
      (pss_one (ps_expr (pe_bm PySem.F.plainAttrs_list PySem.F.slot_list_append PySem.F.type_list_append mt_append (pv 2) (pa_cons (callG GN hq hr (by rfl) gN kN bN .nil pass0 (pa_cons (pv 0) (pa_cons (pv 2) pa_nil))) pa_nil)))))
    (pss_one (ps_ret (pv 2)))), ?_⟩
  refine ⟨Nat.zero_le _, fun l hl => ?_⟩
  have d0 : Drew p H (upd H l (.lst [])) := Drew.of pot (Ex.new hl)
  have ln : l ≠ p := fun e => by
    obtain ⟨x, y, z, _⟩ := pot
    rw [← e, hl] at z
    cases z
  refine ⟨.int n, rfl, n, rfl, by omega, by omega, for_range (lo := 0) (n := (n : Int).toNat) (fun i σ H' => ∃ y3 xs, σ = [some (.ref p), some (.int n), some (.ref l), y3] ∧ H' l = some (.lst ((xs : List Str).map V.str)) ∧ xs.length = i ∧ (∀ x ∈ xs, isNameS x = true) ∧ Drew p H H')
    ⟨none, [], rfl, upd_same, rfl, by simp, d0⟩ (fun i σ H1 hi hP => ?_) (fun σ H1 hP => ?_)⟩
  · obtain ⟨y3, xs, rfl, h1, lx, hx, dr⟩ := hP
    refine ⟨.ref l, rfl, .inl ⟨rfl, _, sq_of h1⟩, .ref p, rfl, .ref l, rfl, p, l, xs, rfl, dr.pot, ln, h1, by omega, fun x H2 nx dr2 => ?_⟩
    refine ⟨l, _, .str x, rfl, rfl, dr2.at ln h1, sz_lt (by rw [List.length_map]; omega), _, xs ++ [x], rfl, ?_, by simp [lx], ?_, (dr.trans dr2).mut hl ln⟩
    · rw [upd_same, List.map_append]; rfl
    · intro y hy
      rcases List.mem_append.mp hy with z | z
      · exact hx y z
      · rw [List.mem_singleton.mp z]; exact nx
  · obtain ⟨y3, xs, rfl, h1, lx, hx, dr⟩ := hP
    exact ⟨.ref l, rfl, q l xs H1 hl h1 (by omega) hx dr⟩

theorem ok_step {f : Addr} {fd : FuncData} {k : Nat} (F : Fun K "_law_step" "_law_step" sStep f fd) (B : Blt mg) (D : Has P w K mg base k "_law_draw" ["_law_pot_here", "_law_most"] spDraw)
    (C : Has P w K mg base k "_law_choice" ["_law_pot_here", "_law_options"] spChoice) (I : Has P w K mg base k "_law_integer" ["_law_pot_here"] spInteger) :
    FnG P w K mg base CX0 (k + 1) f fd ["_law_pot_here", "_law_modules", "_law_names_here", "_law_after"] spStep := by
  obtain ⟨fD, fdD, GD, bD, kD, gD⟩ := D.ex
  obtain ⟨fC, fdC, GC, bC, kC, gC⟩ := C.ex
  obtain ⟨fI, fdI, GI, bI, kI, gI⟩ := I.ex
  refine okG F scStep (fun vs H Q E h => by obtain ⟨_, _, _, _, _, _, rfl, _⟩ := h; rfl) (fun cdv A outer s H vs Q E hq hr h => ?_)
  obtain ⟨p, m, nm, ms, ns, a, rfl, pot, mp, np, hm, hn, ⟨m0, m1, n0, n1, hms, hns, ha⟩, q⟩ := h
  refine ⟨_, pss_cons (ps_par3 rfl scStep.nd (i := 4) (j := 5) (l := 6) rfl rfl rfl (by decide) (by decide) (by decide) rfl rfl rfl
      (pa_cons (callG GD hq hr (by rfl) gD kD bD .nil pass0 (pa_cons (pv 0) (pa_cons pe_int pa_nil))) (pa_cons (callG GC hq hr (by rfl) gC kC bC .nil pass0 (pa_cons (pv 0) (pa_cons pe_str pa_nil))) (pa_cons (callG GC hq hr (by rfl) gC kC bC .nil pass0 (pa_cons (pv 0) (pa_cons pe_str pa_nil))) pa_nil))) (by rfl))
    (pss_cons (ps_par rfl scStep.nd (i := 7) (j := 8) rfl rfl (by decide) rfl rfl (pa_cons (callG GC hq hr (by rfl) gC kC bC .nil pass0 (pa_cons (pv 0) (pa_cons (pv 1) pa_nil))) (pa_cons (callG GC hq hr (by rfl) gC kC bC .nil pass0 (pa_cons (pv 0) (pa_cons (pv 2) pa_nil))) pa_nil)) (by rfl))
    (pss_cons (ps_if (PW.pt (pw_and (pt_cmpR op_eq (pv 4) pe_int (nomark _)) (pw_and1 (pt_cmpR op_gt (pv 3) pe_int (nomark _)))))
      (pss_one (ps_ret (pe_tup (pa_cons pe_str (pa_cons (pv 5) (pa_cons (pe_op op_add pe_int (callG GD hq hr (by rfl) gD kD bD .nil pass0 (pa_cons (pv 0) (pa_cons (pv 3) pa_nil)))) pa_nil)))))) pss_nil)
    (pss_cons (ps_set (i := 9) scStep.nd rfl (.inl rfl) (pe_lst (pa_cons (pe_tup (pa_cons pe_str (pa_cons (pv 5) (pa_cons (callG GI hq hr (by rfl) gI kI bI .nil pass0 (pa_cons (pv 0) pa_nil)) pa_nil))))
      (pa_cons (pe_tup (pa_cons pe_str (pa_cons (pv 5) (pa_cons (pv 6) pa_nil)))) (pa_cons (pe_tup (pa_cons pe_str (pa_cons (pv 7) pa_nil))) (pa_cons (pe_tup (pa_cons pe_str (pa_cons (pv 8) (pa_cons (pv 5) pa_nil)))) pa_nil))))))
    (pss_one (ps_ret (pe_ix ix_list (pe_op op_cat (pv 9) (pe_lst (pa_cons (pe_tup (pa_cons pe_str (pa_cons (pv 5) (pa_cons (pv 7) (pa_cons (pv 8) pa_nil))))) (pa_cons (pe_tup (pa_cons pe_str (pa_cons (pv 7) pa_nil)))
      (pa_cons (pe_tup (pa_cons pe_str (pa_cons (pv 7) (pa_cons (pv 5) pa_nil)))) (pa_cons (pe_tup (pa_cons pe_str pa_nil)) pa_nil)))))) (pv 4) (fun _ _ => rfl))))))), ?_⟩
  have l4 : 0 < (("abcd" : Str)).length ∧ (("abcd" : Str)).length ≤ 1000 := by decide +kernel
  refine ⟨.ref p, rfl, p, 8, rfl, by decide, by decide +kernel, pot, fun wd H1 w0 w8 r1 => ?_⟩
  refine ⟨.ref p, rfl, p, r1.pot, .inr ⟨"abcd", rfl, l4.1, l4.2, fun cx H2 hcx r2 => ?_⟩⟩
  refine ⟨.ref p, rfl, p, r2.pot, .inr ⟨"abcd", rfl, l4.1, l4.2, fun cy H3 hcy r3 => ?_⟩⟩
  have vx := var_of hcx
  have vy := var_of hcy
  generalize (⟨#[cx]⟩ : Str) = x at vx
  generalize (⟨#[cy]⟩ : Str) = y at vy
  have r13 := (r1.trans r2).trans r3
  refine ⟨_, _, _, rfl, ?_⟩
  refine ⟨.ref p, rfl, .ref m, rfl, p, r13.pot, .inl ⟨m, ms.map V.str, rfl, mp, r13.at mp hm, by rw [List.length_map]; exact m0, by rw [List.length_map]; omega, fun v7 H4 hv7 r4 => ?_⟩⟩
  have r14 := r13.trans r4
  refine ⟨.ref p, rfl, .ref nm, rfl, p, r14.pot, .inl ⟨nm, ns.map V.str, rfl, np, r14.at np hn, by rw [List.length_map]; exact n0, by rw [List.length_map]; omega, fun v8 H5 hv8 r5 => ?_⟩⟩
  have r15 := r14.trans r5
  obtain ⟨md, hmd, rfl⟩ := List.mem_map.mp hv7
  obtain ⟨ne, hne, rfl⟩ := List.mem_map.mp hv8
  have nmd := hms md hmd
  have nne := hns ne hne
  refine ⟨_, _, rfl, ?_⟩
  have fin : ∀ (t : Addr) (xs : List V) (H' : Hp), H5 t = none → H' t = some (.tup xs) → StepOk xs → Drew p H5 H' → Q (.ref t) H' := fun t xs H' h1 h2 h3 h4 => q t xs H' (fresh_drew r15 pot h1) h2 h3 (r15.trans h4)
  have rest : ∀ H6, Ex H5 H6 → tSeq (tAsg (tLst (tCons (tTup (tCons (tC (.str "set")) (tCons (tVar 5) (tCons (tCall spInteger [] E0 (tCons (tVar 0) tNil)) tNil))))
      (tCons (tTup (tCons (tC (.str "add")) (tCons (tVar 5) (tCons (tVar 6) tNil)))) (tCons (tTup (tCons (tC (.str "need")) (tCons (tVar 7) tNil))) (tCons (tTup (tCons (tC (.str "export")) (tCons (tVar 8) (tCons (tVar 5) tNil)))) tNil))))) (gName 9))
      (tRet (tOp (rIxL K) (tOp rCat (tVar 9) (tLst (tCons (tTup (tCons (tC (.str "read")) (tCons (tVar 5) (tCons (tVar 7) (tCons (tVar 8) tNil))))) (tCons (tTup (tCons (tC (.str "need")) (tCons (tVar 7) tNil)))
      (tCons (tTup (tCons (tC (.str "try")) (tCons (tVar 7) (tCons (tVar 5) tNil)))) (tCons (tTup (tCons (tC (.str "fail")) tNil)) tNil)))))) (tVar 4))) { nx := fun _ H' => Q .non H', rt := Q }
      [some (.ref p), some (.ref m), some (.ref nm), some (.int a), some (.int wd), some (.str x), some (.str y), some (.str md), some (.str ne), none] H6 := by
    intro H6 e6
    have p6 := r15.pot.ex e6
    refine ⟨.str x, rfl, .ref p, rfl, p, rfl, p6, fun i H7 hi r7 => ?_⟩
    have d7 : Drew p H5 H7 := (Drew.of r15.pot e6).trans r7
    refine ⟨by show 3 ≤ sizeLine; decide, fun t1 z1 => ?_⟩
    refine ⟨.str x, rfl, .str y, rfl, by show 3 ≤ sizeLine; decide, fun t2 z2 => ?_⟩
    refine ⟨.str md, rfl, by show 2 ≤ sizeLine; decide, fun t3 z3 => ?_⟩
    refine ⟨.str ne, rfl, .str x, rfl, by show 3 ≤ sizeLine; decide, fun t4 z4 => ?_⟩
    refine ⟨by show 4 ≤ sizeLine; decide, fun l1 z5 => ?_⟩
    refine ⟨.ref l1, rfl, .str x, rfl, .str md, rfl, .str ne, rfl, by show 4 ≤ sizeLine; decide, fun t5 z6 => ?_⟩
    refine ⟨.str md, rfl, by show 2 ≤ sizeLine; decide, fun t6 z7 => ?_⟩
    refine ⟨.str md, rfl, .str x, rfl, by show 3 ≤ sizeLine; decide, fun t7 z8 => ?_⟩
    refine ⟨by show 1 ≤ sizeLine; decide, fun t8 z9 => ?_⟩
    refine ⟨by show 4 ≤ sizeLine; decide, fun l2 z10 => ?_⟩
    have e1 := Ex.new (o := .tup [.str "set", .str x, .int i]) z1
    have e2 := Ex.new (o := .tup [.str "add", .str x, .str y]) z2
    have e3 := Ex.new (o := .tup [.str "need", .str md]) z3
    have e4 := Ex.new (o := .tup [.str "export", .str ne, .str x]) z4
    have e5 := Ex.new (o := .lst [.ref t1, .ref t2, .ref t3, .ref t4]) z5
    have e6' := Ex.new (o := .tup [.str "read", .str x, .str md, .str ne]) z6
    have e7 := Ex.new (o := .tup [.str "need", .str md]) z7
    have e8 := Ex.new (o := .tup [.str "try", .str md, .str x]) z8
    have e9 := Ex.new (o := .tup [.str "fail"]) z9
    have e10 := Ex.new (o := .lst [.ref t5, .ref t6, .ref t7, .ref t8]) z10
    have c9 := e9.trans e10
    have c8 := e8.trans c9
    have c7 := e7.trans c8
    have c6 := e6'.trans c7
    have c5 := e5.trans c6
    have c4 := e4.trans c5
    have c3 := e3.trans c4
    have c2 := e2.trans c3
    have c1 := e1.trans c2
    refine ⟨l1, l2, _, _, rfl, rfl, c6 _ _ upd_same, upd_same, by show 8 ≤ sizeLine; decide, fun l3 z11 => ?_⟩
    have e11 := Ex.new (o := .lst [.ref t1, .ref t2, .ref t3, .ref t4, .ref t5, .ref t6, .ref t7, .ref t8]) z11
    have all := c1.trans e11
    have dr := d7.trans (Drew.of d7.pot all)
    have fr : ∀ {q : Addr}, H7 q = none → H5 q = none := fun h => fresh_drew d7 r15.pot h
    obtain ⟨j, rfl⟩ := Int.eq_ofNat_of_zero_le w0
    have hj : j = 0 ∨ j = 1 ∨ j = 2 ∨ j = 3 ∨ j = 4 ∨ j = 5 ∨ j = 6 ∨ j = 7 := by omega
    refine ⟨.int (j : Int), rfl, ?_⟩
    rcases hj with rfl | rfl | rfl | rfl | rfl | rfl | rfl | rfl
    · exact ⟨l3, _, _, .ref t1, rfl, rfl, sq_of upd_same, atI_nat (j := 0) rfl, fin t1 _ _ (fr z1) ((c2.trans e11) _ _ upd_same) (st_set vx hi) dr⟩
    · exact ⟨l3, _, _, .ref t2, rfl, rfl, sq_of upd_same, atI_nat (j := 1) rfl, fin t2 _ _ (fr (fresh_back e1 z2)) ((c3.trans e11) _ _ upd_same) (st_add vx vy) dr⟩
    · exact ⟨l3, _, _, .ref t3, rfl, rfl, sq_of upd_same, atI_nat (j := 2) rfl, fin t3 _ _ (fr (fresh_back (e1.trans e2) z3)) ((c4.trans e11) _ _ upd_same) (st_need nmd) dr⟩
    · exact ⟨l3, _, _, .ref t4, rfl, rfl, sq_of upd_same, atI_nat (j := 3) rfl, fin t4 _ _ (fr (fresh_back ((e1.trans e2).trans e3) z4)) ((c5.trans e11) _ _ upd_same) (st_export nne vx) dr⟩
    · exact ⟨l3, _, _, .ref t5, rfl, rfl, sq_of upd_same, atI_nat (j := 4) rfl, fin t5 _ _ (fr (fresh_back ((((e1.trans e2).trans e3).trans e4).trans e5) z6)) ((c7.trans e11) _ _ upd_same) (st_read vx nmd nne) dr⟩
    · exact ⟨l3, _, _, .ref t6, rfl, rfl, sq_of upd_same, atI_nat (j := 5) rfl, fin t6 _ _ (fr (fresh_back (((((e1.trans e2).trans e3).trans e4).trans e5).trans e6') z7)) ((c8.trans e11) _ _ upd_same) (st_need nmd) dr⟩
    · exact ⟨l3, _, _, .ref t7, rfl, rfl, sq_of upd_same, atI_nat (j := 6) rfl, fin t7 _ _ (fr (fresh_back ((((((e1.trans e2).trans e3).trans e4).trans e5).trans e6').trans e7) z8)) ((c9.trans e11) _ _ upd_same) (st_try nmd vx) dr⟩
    · exact ⟨l3, _, _, .ref t8, rfl, rfl, sq_of upd_same, atI_nat (j := 7) rfl, fin t8 _ _ (fr (fresh_back (((((((e1.trans e2).trans e3).trans e4).trans e5).trans e6').trans e7).trans e8) z9)) ((e10.trans e11) _ _ upd_same) st_fail dr⟩
  refine q_when (et_and (et_test (ev_op (ev_var rfl) ev_c (rv_eq rfl))) fun _ => et_test (ev_op (ev_var rfl) ev_c rv_I0)) (fun hb H6 e6 => ?_) (fun hb H6 e6 => rest H6 e6)
  have hb2 := of_decide_eq_true (Bool.and_eq_true_iff.mp hb).2
  refine ⟨.str x, rfl, .ref p, rfl, .int a, rfl, p, (a : Int), rfl, hb2, ?_, r15.pot.ex e6, fun d H7 d0 d1 r7 => ?_⟩
  · rw [Int.natAbs_natCast]
    have := (Nat.log2_lt (k := 10) (by omega)).mpr (show a < 2 ^ 10 by omega)
    omega
  · refine ⟨1, d, rfl, rfl, by show 3 ≤ sizeLine; decide, fun t zt => ?_⟩
    have d7 : Drew p H5 H7 := (Drew.of r15.pot e6).trans r7
    have e30 : (10 : Nat) ^ 30 = 1000000000000000000000000000000 := by decide
    exact fin t _ _ (fresh_drew d7 r15.pot zt) upd_same (st_skip vx (by omega) (by rw [e30]; omega)) (d7.trans (Drew.of d7.pot (Ex.new zt)))
end
end Cr
namespace Cr
open PySem PySem.Spec PyProof.Rows L2 Evl
abbrev sWhole : Stmt := topS 21
abbrev sWord : Stmt := topS 22
abbrev sFits : Stmt := topS 23
abbrev sRightStep : Stmt := topS 24
abbrev nRs : List Str := ["_law_value", "_law_forms", "_law_sorts", "_law_sort", "_law_one"]
theorem scWhole : FnScope ["_law_value"] ["_law_value"] (defScope sWhole) := ⟨rfl, rfl, rfl, by decide +kernel, rfl, by decide +kernel, by decide +kernel⟩
theorem scWord : FnScope ["_law_value", "_law_letter"] ["_law_value"] (defScope sWord) := ⟨rfl, rfl, rfl, by decide +kernel, rfl, by decide +kernel, by decide +kernel⟩
theorem scFits : FnScope ["_law_sort", "_law_value"] ["_law_sort", "_law_value"] (defScope sFits) := ⟨rfl, rfl, rfl, by decide +kernel, rfl, by decide +kernel, by decide +kernel⟩
theorem scRightStep : FnScope nRs ["_law_value"] (defScope sRightStep) := ⟨rfl, rfl, rfl, by decide +kernel, rfl, by decide +kernel, by decide +kernel⟩

/-! ### mathematics -/
theorem abc_mem (c : Nat) : decide (c ∈ abc.cps.toList) = isLow c := by
  have e : abc.cps.toList = (List.range 26).map fun i => 97 + i := by decide +kernel
  rw [e]
  unfold isLow
  by_cases h : 97 ≤ c ∧ c ≤ 122
  · rw [decide_eq_true h.1, decide_eq_true h.2]
    exact decide_eq_true (List.mem_map.mpr ⟨c - 97, List.mem_range.mpr (by omega), by omega⟩)
  · rw [decide_eq_false (show ¬ c ∈ (List.range 26).map fun i => 97 + i from fun z => by
      obtain ⟨i, hi, rfl⟩ := List.mem_map.mp z
      have := List.mem_range.mp hi
      omega)]
    by_cases h1 : 97 ≤ c
    · rw [decide_eq_false (show ¬ c ≤ 122 by omega), Bool.and_false]
    · rw [decide_eq_false h1, Bool.false_and]
theorem filter_range (l : List Nat) (p : Nat → Bool) : ((List.range l.length).filter fun i => p (l.getD i 0)).map (fun i => l.getD i 0) = l.filter p := by
  have e : ∀ n, n ≤ l.length → ((List.range n).filter fun i => p (l.getD i 0)).map (fun i => l.getD i 0) = (l.take n).filter p := by
    intro n
    induction n with
    | zero => intro _; simp
    | succ n ih =>
      intro h
      have g : l.getD n 0 = l[n]'(by omega) := by simp [List.getD, List.getElem?_eq_getElem (show n < l.length by omega)]
      rw [List.range_succ, List.filter_append, List.map_append, ih (by omega), List.take_add_one, List.filter_append, List.getElem?_eq_getElem (show n < l.length by omega)]
      congr 1
      rw [List.filter_cons, g]
      simp only [Option.toList_some, List.filter_cons, List.filter_nil]
      split
      · rw [List.map_cons, g]; rfl
      · rfl
  have h := e l.length (Nat.le_refl _)
  rw [List.take_length] at h
  exact h
theorem filter_self {l : List Nat} {p : Nat → Bool} : decide (l.filter p = l) = l.all p := by
  by_cases h : l.all p = true
  · rw [h]
    exact decide_eq_true (List.filter_eq_self.mpr fun a ha => List.all_eq_true.mp h a ha)
  · rw [Bool.eq_false_iff.mpr h]
    refine decide_eq_false fun z => h (List.all_eq_true.mpr fun a ha => ?_)
    exact List.filter_eq_self.mp z a ha
theorem flat_ones : ∀ (l : List Nat), ((l.map fun c => (⟨#[c]⟩ : Str)).flatMap fun w => w.cps.toList) = l
  | [] => rfl
  | c :: r => by rw [List.map_cons, List.flatMap_cons, flat_ones r]; rfl

def fitsC (c : Nat) (d : PyData) : Bool :=
  if c = 118 then isVar d else if c = 105 then isInteger d else if c = 107 then isInteger d && atLeast 1 d else isName d
def spFits : Sp := fun vs H Q _ => ∃ c v d, vs = [.str ⟨#[c]⟩, v] ∧ Dt H v d ∧ sm d = true ∧ ∀ H', Ex H H' → Q (.bl (fitsC c d)) H'
/-- the law's table -/
def forms8 : List (Key × V) := [(.inr "set", .str "vi"), (.inr "add", .str "vv"), (.inr "skip", .str "vk"), (.inr "export", .str "nv"), (.inr "read", .str "vnn"), (.inr "need", .str "n"), (.inr "try", .str "nv"), (.inr "fail", .str "")]
def formOf (z : Str) : Option Str :=
  if z = "set" then some "vi" else if z = "add" then some "vv" else if z = "skip" then some "vk"
  else if z = "export" then some "nv" else if z = "read" then some "vnn" else if z = "need" then some "n"
  else if z = "try" then some "nv" else if z = "fail" then some "" else none
theorem form_val (z : Str) : valV forms8 (.inr z) = (formOf z).map V.str := by
  have step : ∀ (k : Str) (v : V) (r : List (Key × V)), valV ((.inr k, v) :: r) (.inr z) = if z = k then some v else valV r (.inr z) := fun k v r => by
    unfold valV
    rw [List.find?_cons]
    by_cases h : z = k
    · subst h
      simp
    · rw [if_neg h]
      have : decide ((Sum.inr k : Key) = Sum.inr z) = false := decide_eq_false fun q => h (Sum.inr.inj q).symm
      rw [this]
  unfold forms8 formOf
  rw [step, step, step, step, step, step, step, step]
  repeat' split
  all_goals rfl
/-- one form, one shape -/
theorem form_shape (z : Str) : (formOf z = none ∧ shapeOf z = none) ∨ ∃ f ks, formOf z = some f ∧ shapeOf z = some ks ∧ f.length = ks.length ∧ f.length ≤ 3 ∧ ∀ i, i < ks.length → ∀ d, fitsC (f.cps.toList.getD i 0) d = isItem d (ks.getD i "") := by
  have cv : ∀ d, fitsC 118 d = isItem d "variable" := fun d => by rw [it_var]; exact if_pos rfl
  have ci : ∀ d, fitsC 105 d = isItem d "integer" := fun d => by rw [it_int]; unfold fitsC; rw [if_neg (by decide), if_pos rfl]
  have ck : ∀ d, fitsC 107 d = isItem d "length" := fun d => by rw [it_len]; unfold fitsC; rw [if_neg (by decide), if_neg (by decide), if_pos rfl]
  have cn : ∀ d, fitsC 110 d = isItem d "name" := fun d => by rw [it_name]; unfold fitsC; rw [if_neg (by decide), if_neg (by decide), if_neg (by decide)]
  have cm : ∀ d, fitsC 110 d = isItem d "module" := fun d => by rw [it_mod]; unfold fitsC; rw [if_neg (by decide), if_neg (by decide), if_neg (by decide)]
  have two : ∀ i, i < 2 → i = 0 ∨ i = 1 := fun i h => by omega
  by_cases h1 : z = "set"
  · subst h1
    refine .inr ⟨"vi", _, by decide +kernel, sh_set, by decide +kernel, by decide +kernel, fun i hi d => ?_⟩
    rcases two i hi with rfl | rfl
    · exact cv d
    · exact ci d
  by_cases h2 : z = "add"
  · subst h2
    refine .inr ⟨"vv", _, by decide +kernel, sh_add, by decide +kernel, by decide +kernel, fun i hi d => ?_⟩
    rcases two i hi with rfl | rfl
    · exact cv d
    · exact cv d
  by_cases h3 : z = "skip"
  · subst h3
    refine .inr ⟨"vk", _, by decide +kernel, sh_skip, by decide +kernel, by decide +kernel, fun i hi d => ?_⟩
    rcases two i hi with rfl | rfl
    · exact cv d
    · exact ck d
  by_cases h4 : z = "export"
  · subst h4
    refine .inr ⟨"nv", _, by decide +kernel, sh_export, by decide +kernel, by decide +kernel, fun i hi d => ?_⟩
    rcases two i hi with rfl | rfl
    · exact cn d
    · exact cv d
  by_cases h5 : z = "read"
  · subst h5
    refine .inr ⟨"vnn", _, by decide +kernel, sh_read, by decide +kernel, by decide +kernel, fun i hi d => ?_⟩
    have hi3 : i < 3 := hi
    have h012 : i = 0 ∨ i = 1 ∨ i = 2 := by omega
    rcases h012 with rfl | rfl | rfl
    · exact cv d
    · exact cm d
    · exact cn d
  by_cases h6 : z = "need"
  · subst h6
    refine .inr ⟨"n", _, by decide +kernel, sh_need, by decide +kernel, by decide +kernel, fun i hi d => ?_⟩
    have hi3 : i < 1 := hi
    obtain rfl : i = 0 := by omega
    exact cm d
  by_cases h7 : z = "try"
  · subst h7
    refine .inr ⟨"nv", _, by decide +kernel, sh_try, by decide +kernel, by decide +kernel, fun i hi d => ?_⟩
    rcases two i hi with rfl | rfl
    · exact cm d
    · exact cv d
  by_cases h8 : z = "fail"
  · subst h8
    refine .inr ⟨"", _, by decide +kernel, sh_fail, by decide +kernel, by decide +kernel, fun i hi d => ?_⟩
    exact absurd hi (Nat.not_lt_zero _)
  left
  unfold formOf shapeOf
  rw [if_neg h1, if_neg h2, if_neg h3, if_neg h4, if_neg h5, if_neg h6, if_neg h7, if_neg h8, if_neg h1, if_neg h2, if_neg h3, if_neg h4, if_neg h5, if_neg h6, if_neg h7, if_neg h8]
  exact ⟨rfl, rfl⟩

/-! ### rules -/
/-- t == () -/
def rEqT0 (K : PySem.W.Frag) : R2 := fun x y H Q => ∃ a b xs, x = .ref a ∧ y = .ref b ∧ SqT K H a xs ∧ SqT K H b [] ∧ Q (.bl xs.isEmpty) H
theorem op_eqT0 {X : Cx} (hu : X.A.units < cLine) : OpR X (compareOp .Eq) (rEqT0 X.K) := by
  intro pins s σ H x y v u Q I rx ry h
  obtain ⟨a, b, xs, rfl, rfl, ha, hb, q⟩ := h
  cases rx
  cases ry
  obtain ⟨its, rv, p1, _⟩ := I.tuple ha
  obtain ⟨its2, rv2, p2, _⟩ := I.tuple hb
  cases rv2
  refine SeqAt.eq_tupleAt (e := fun _ => true) (show s.heap.IsTuple a its.toArray from p1) (show s.heap.IsTuple b #[] from p2) hu (fun j _ h2 => absurd h2 (Nat.not_lt_zero j)) ?_
  refine ⟨.bl xs.isEmpty, H, I, ?_, q⟩
  have l := rv.length
  cases xs with
  | nil =>
    cases rv
    rfl
  | cons y r =>
    cases rv
    rfl
theorem ev_join {te : TE} {σ : L2.St} {H : Hp} {K : PySem.W.Frag} {ws : List Str} {a : Str} (h : EvL te σ H (ws.map V.str)) (hz : (ws.map (·.length)).sum + ws.length * a.length ≤ 16777216) :
    Ev (tM1 (fun x xs H Q => ∃ a p, ∃ ys : List Str, x = .str a ∧ xs = [.ref p] ∧ (SqL K H p (ys.map V.str) ∨ SqT K H p (ys.map V.str)) ∧ (ys.map (·.length)).sum + ys.length * a.length ≤ 16777216 ∧ Q (.str (Txt.join a ys)) H) (tC (.str a)) te) σ H (.str (Txt.join a ws)) := fun H1 e Q q =>
  ⟨⟨a, rfl⟩, h H1 e _ fun p H2 _ e2 hp => ⟨a, p, ws, rfl, rfl, .inl (sq_of hp), hz, q H2 e2⟩⟩
section
variable {P : Program} {w : World} {K : PySem.W.Frag} {mg : Str → Option Value} {base : Heap}
theorem ok_whole {f : Addr} {fd : FuncData} {k : Nat} (F : Fun K "_law_is_whole" "_law_is_whole" sWhole f fd) (B : Blt mg) : FnG P w K mg base CX0 (k + 1) f fd ["_law_value"] (spD isInteger) := by
  refine okG F scWhole spD_len (fun cdv A outer s H vs Q E hq hr h => ?_)
  obtain ⟨v, d, rfl, hd, _, q⟩ := h
  refine ⟨_, pss_one (ps_ret (pe_and (pe_callB call_isi (by rfl) B.isi bIsi (pa_cons (pv 0) (pa_cons (pe_bltn (v := .ty "int") (by rfl) B.int bInt rfl) pa_nil)))
    (pe_one (pe_not (pe_callB call_isi (by rfl) B.isi bIsi (pa_cons (pv 0) (pa_cons (pe_bltn (v := .ty "bool") (by rfl) B.bool bBool rfl) pa_nil))))))), ?_⟩
  exact s_ret (ev_andV (ev_cb (ea_cons (ev_var rfl) (ea_cons ev_c ea_nil)) (rc_isi hd memI)) fun _ => ev_notV (ev_cb (ea_cons (ev_var rfl) (ea_cons ev_c ea_nil)) (rc_isi hd memB))) q

theorem ok_word {f : Addr} {fd : FuncData} {k : Nat} (F : Fun K "_law_is_word" "_law_is_word" sWord f fd) (B : Blt mg) : FnG P w K mg base CX0 (k + 1) f fd ["_law_value"] (spD isName) := by
  refine okG F scWord spD_len (fun cdv A outer s H vs Q E hq hr h => ?_)
  obtain ⟨v, d, rfl, hd, hs, q⟩ := h
  refine ⟨_, pss_cons (ps_if (PW.pt (pw_or (pt_not (pt_val (pe_callB call_isi (by rfl) B.isi bIsi (pa_cons (pv 0) (pa_cons (pe_bltn (v := .ty "str") (by rfl) B.str bStr rfl) pa_nil)))))
      (pw_or (pt_cmpR op_gt (pe_callB call_len_str (by rfl) B.len bLen (pa_cons (pv 0) pa_nil)) pe_int (nomark _)) (pw_or1 (pt_cmpR op_eq (pv 0) pe_str (nomark _)))))) (pss_one (ps_ret pe_bl)) pss_nil)
    (pss_one (ps_ret (pe_cmpR op_eq (pe_join pe_str (pe_lc (own := [("_law_letter", 1)]) (g := gName 1) (tt := tTest (tOp rInS (tVar 1) (tC (.str abc)))) rfl scWord.nd (pi_str (pv 0)) (blkOk_by (own := [("_law_letter", 1)]) (N := ["_law_value", "_law_letter"]) (sc := defScope sWord) (by decide +kernel))
        (fun _ _ _ _ _ => pg_name (i := 1) scWord.nd rfl (Or.inl rfl)) (fun _ _ _ _ _ => by exact pts_one (pt_cmpR op_inS (pv 1) pe_str (by rfl))) (fun _ _ _ _ _ => pv 1))) (pv 0) (nomark _)))), ?_⟩
  have isS := rc_isi (K := K) hd memS
  cases hd with
  | str x =>
    have hx : x.length ≤ 1000 := by
      rw [sm] at hs
      exact of_decide_eq_true hs
    refine q_when (et_or (et_not (et_B (ev_cb (ea_cons (ev_var rfl) (ea_cons ev_c ea_nil)) isS))) fun _ => et_or (et_test (ev_op (ev_cb (ea_cons (ev_var rfl) ea_nil) (rc_lenS hx)) ev_c rv_I0)) fun _ => et_test (ev_op (ev_var rfl) ev_c (rv_eq rfl))) (fun hb H1 e1 => ?_) (fun hb H1 e1 => ?_)
    all_goals have e0 : isT "str" (.str x) = true := rfl
    all_goals have hl : (x = ("" : Str)) ↔ x.length = 0 := ⟨fun z => by subst z; decide +kernel, fun z => Str.ext' (by have : x.cps.size = 0 := z; rw [Array.size_eq_zero_iff.mp this]; decide +kernel)⟩
    · refine s_ret ev_c fun H2 e2 => ?_
      have hb' : (!(isT "str" (.str x)) || (decide ((8 : Int) < (x.length : Int)) || decide (V.str x = V.str ""))) = true := hb
      rw [e0, Bool.not_true, Bool.false_or, Bool.or_eq_true] at hb'
      have z : isName (.str x) = false := by
        show ((decide ((1 : Int) ≤ x.length) && decide ((x.length : Int) ≤ 8)) && x.cps.toList.all isLow) = false
        rcases hb' with z | z
        · have := of_decide_eq_true z
          rw [decide_eq_false (show ¬ (x.length : Int) ≤ 8 by omega), Bool.and_false, Bool.false_and]
        · have := hl.mp (V.str.inj (of_decide_eq_true z))
          rw [decide_eq_false (show ¬ (1 : Int) ≤ x.length by omega), Bool.false_and, Bool.false_and]
      have g := q H2 (e1.trans e2)
      rw [z] at g
      exact g
    · have hb' : (!(isT "str" (.str x)) || (decide ((8 : Int) < (x.length : Int)) || decide (V.str x = V.str ""))) = false := hb
      rw [e0, Bool.not_true, Bool.false_or, Bool.or_eq_false_iff] at hb'
      have h8 := of_decide_eq_false hb'.1
      have h0 : x.length ≠ 0 := fun z => of_decide_eq_false hb'.2 (by rw [hl.mpr z])
      have lc := el_lcW (wi := iStr (tVar 0)) (g := gName 1) (tt := tTest (tOp rInS (tVar 1) (tC (.str abc)))) (te := tVar 1) (vs := [1]) (σ := start ["_law_value", "_law_letter"] [V.str x]) (H := H1) (fun i => isLow (x.cps.toList.getD i 0)) (fun i => .str ⟨#[x.cps.toList.getD i 0]⟩)
        (Y := fun i H v H' => H' = H ∧ ∃ c, x.cps[i]? = some c ∧ v = .str ⟨#[c]⟩) (n := x.cps.size) (by have : x.cps.size = x.length := rfl; omega)
        (fun H2 e R r => ⟨.str x, rfl, x, rfl, r H2 _ _ walk_str (fun _ _ _ z => z) (Ex.refl H2) trivial⟩) (fun i y H2 H3 e hi hy => by
          obtain ⟨rfl, c, hc, rfl⟩ := hy
          have ec : x.cps.toList.getD i 0 = c := by
            rw [List.getD, Array.getElem?_toList, hc]; rfl
          rw [ec]
          refine ⟨Ex.refl _, [some (.str x), some (.str ⟨#[c]⟩)], rfl, fun R r => r, et_test (ev_op (ev_var rfl) ev_c (rv_val fun H4 _ Q q => ⟨c, abc, rfl, rfl, ?_⟩)), fun _ => ev_var rfl⟩
          rw [abc_mem]
          exact q)
      have eg : given x.cps.size (fun i => isLow (x.cps.toList.getD i 0)) (fun i => V.str ⟨#[x.cps.toList.getD i 0]⟩) = ((x.cps.toList.filter isLow).map fun c => (⟨#[c]⟩ : Str)).map V.str := by
        unfold given
        rw [← filter_range x.cps.toList isLow, List.map_map, List.map_map]
        rfl
      rw [eg] at lc
      have lw : ∀ l : List Nat, ((l.map fun c => (⟨#[c]⟩ : Str)).map (·.length)).sum = l.length := fun l => by
        induction l with
        | nil => rfl
        | cons c r ih => rw [List.map_cons, List.map_cons, List.sum_cons, ih, List.length_cons]; show 1 + r.length = _; omega
      have fl := List.length_filter_le isLow x.cps.toList
      rw [len_toList] at fl
      have e00 : (("" : Str)).length = 0 := by decide +kernel
      refine s_ret (ev_op (ev_join (K := K) lc (by rw [lw, e00]; omega)) (ev_var rfl) (rv_eq rfl)) fun H2 e2 => ?_
      have z : decide (V.str (Txt.join "" ((x.cps.toList.filter isLow).map fun c => (⟨#[c]⟩ : Str))) = V.str x) = isName (.str x) := by
        show _ = ((decide ((1 : Int) ≤ x.length) && decide ((x.length : Int) ≤ 8)) && x.cps.toList.all isLow)
        rw [decide_eq_true (show (1 : Int) ≤ x.length by omega), decide_eq_true (show (x.length : Int) ≤ 8 by omega), Bool.true_and, Bool.true_and, ← filter_self]
        have jc := join_cps ((x.cps.toList.filter isLow).map fun c => (⟨#[c]⟩ : Str))
        rw [flat_ones] at jc
        by_cases hh : x.cps.toList.filter isLow = x.cps.toList
        · rw [decide_eq_true hh]
          refine decide_eq_true (congrArg V.str (PyProof.Rows.ext_toList ?_))
          rw [jc, hh]
        · rw [decide_eq_false hh]
          refine decide_eq_false fun zz => hh ?_
          rw [← jc, V.str.inj zz]
      rw [z]
      exact q H2 (e1.trans e2)
  | _ =>
    refine q_when (b := true) (et_is (et_or (et_not (et_B (ev_cb (ea_cons (ev_var rfl) (ea_cons ev_c ea_nil)) isS))) (b := false) fun z => absurd z (by first | decide | simp [isT, isTs, tyT])) (by first | decide | simp [isT, isTs, tyT])) (fun _ H1 e1 => s_ret ev_c fun H2 e2 => q H2 (e1.trans e2)) (fun z => absurd z (by decide))

theorem ok_fits {f fW fN : Addr} {fd fdW fdN : FuncData} {k : Nat} (F : Fun K "_law_fits" "_law_fits" sFits f fd) (B : Blt mg)
    (W : Has P w K mg base k "_law_is_whole" ["_law_value"] (spD isInteger)) (N : Has P w K mg base k "_law_is_word" ["_law_value"] (spD isName)) :
    FnG P w K mg base CX0 (k + 1) f fd ["_law_sort", "_law_value"] spFits := by
  obtain ⟨fI, fdI, GI, bI, kI, gI⟩ := W.ex
  obtain ⟨fN, fdN, GN, bN, kN, gN⟩ := N.ex
  refine okG F scFits (fun vs H Q E h => by obtain ⟨_, _, _, rfl, _⟩ := h; rfl) (fun cdv A outer s H vs Q E hq hr h => ?_)
  obtain ⟨c, v, d, rfl, hd, hs, q⟩ := h
  refine ⟨_, pss_cons (ps_if (pt_cmpR op_eq (pv 0) pe_str (nomark _)) (pss_one (ps_ret (pe_and (pe_callB call_isi (by rfl) B.isi bIsi (pa_cons (pv 1) (pa_cons (pe_bltn (v := .ty "str") (by rfl) B.str bStr rfl) pa_nil)))
        (pe_one (pe_cmpR op_in_seq (pv 1) (pe_tup (pa_cons pe_str (pa_cons pe_str (pa_cons pe_str (pa_cons pe_str pa_nil))))) (by rfl)))))) pss_nil)
    (pss_cons (ps_if (pt_cmpR op_eq (pv 0) pe_str (nomark _)) (pss_one (ps_ret (callG GI hq hr (by rfl) gI kI bI .nil pass0 (pa_cons (pv 1) pa_nil)))) pss_nil)
    (pss_cons (ps_if (pt_cmpR op_eq (pv 0) pe_str (nomark _)) (pss_one (ps_ret (pe_and (callG GI hq hr (by rfl) gI kI bI .nil pass0 (pa_cons (pv 1) pa_nil)) (pe_one (pe_cmpR op_gt (pv 1) pe_int (nomark _)))))) pss_nil)
    (pss_one (ps_ret (callG GN hq hr (by rfl) gN kN bN .nil pass0 (pa_cons (pv 1) pa_nil)))))), ?_⟩
  have ov : (("v" : Str)) = ⟨#[118]⟩ := by decide +kernel
  have oi : (("i" : Str)) = ⟨#[105]⟩ := by decide +kernel
  have ok : (("k" : Str)) = ⟨#[107]⟩ := by decide +kernel
  have ne : ∀ {z : Str} {n : Nat}, z = ⟨#[n]⟩ → decide (V.str ⟨#[c]⟩ = V.str z) = false → ¬ c = n := fun ez h e => of_decide_eq_false h (by rw [ez, e])
  have ye : ∀ {z : Str} {n : Nat}, z = ⟨#[n]⟩ → decide (V.str ⟨#[c]⟩ = V.str z) = true → c = n := fun {z n} ez h => by
    have q := V.str.inj (of_decide_eq_true h)
    rw [ez] at q
    have q2 : (#[c] : Array Nat) = #[n] := congrArg Str.cps q
    simpa using q2
  refine q_when (et_test (ev_op (ev_var rfl) ev_c (rv_eq rfl))) (fun hb H1 e1 => ?_) (fun hb H1 e1 => ?_)
  · have hd1 := Dt.ex e1 hd
    have isS := rc_isi (K := K) hd1 memS
    refine s_ret (v := .bl (isVar d)) ?_ fun H2 e2 => ?_
    · cases hd1 with
      | str x =>
        refine ev_is (ev_andV (b := inV (.str x) (vars4.map V.str)) (ev_cb (ea_cons (ev_var rfl) (ea_cons ev_c ea_nil)) isS) fun _ => ev_inU (ev_var rfl) (eu_tup (ea_cons ev_c (ea_cons ev_c (ea_cons ev_c (ea_cons ev_c ea_nil)))) (by show 4 ≤ 100000; decide)) rfl (flat_strs _)) ?_
        rw [inV_strs]
        rfl
      | _ => exact ev_is (ev_andV (b := false) (ev_cb (ea_cons (ev_var rfl) (ea_cons ev_c ea_nil)) isS) fun z => absurd z (by first | decide | simp [isT, isTs, tyT])) (by first | rfl | simp [isT, isTs, tyT, isVar])
    · have g := q H2 (e1.trans e2)
      unfold fitsC at g
      rw [if_pos (ye ov hb)] at g
      exact g
  refine q_when (et_test (ev_op (ev_var rfl) ev_c (rv_eq rfl))) (fun hb2 H2 e2 => ?_) (fun hb2 H2 e2 => ?_)
  · refine s_ret (ev_call (ea_cons (ev_var rfl) ea_nil) (spv_D (Dt.ex (e1.trans e2) hd) hs)) fun H3 e3 => ?_
    have g := q H3 ((e1.trans e2).trans e3)
    unfold fitsC at g
    rw [if_neg (ne ov hb), if_pos (ye oi hb2)] at g
    exact g
  refine q_when (et_test (ev_op (ev_var rfl) ev_c (rv_eq rfl))) (fun hb3 H3 e3 => ?_) (fun hb3 H3 e3 => ?_)
  · have hd3 := Dt.ex ((e1.trans e2).trans e3) hd
    refine s_ret (v := .bl (isInteger d && atLeast 1 d)) (ev_andV (ev_call (ea_cons (ev_var rfl) ea_nil) (spv_D hd3 hs)) fun hi => ?_) fun H4 e4 => ?_
    · cases hd3 with
      | int i =>
        refine ev_is (ev_op (ev_var rfl) ev_c rv_I0) ?_
        show V.bl (decide (0 < i)) = V.bl (decide (1 ≤ i))
        congr 1
      | _ => exact absurd hi (by first | decide | (revert hi; simp [isInteger, isT, isTs, tyT]))
    · have g := q H4 (((e1.trans e2).trans e3).trans e4)
      unfold fitsC at g
      rw [if_neg (ne ov hb), if_neg (ne oi hb2), if_pos (ye ok hb3)] at g
      exact g
  · refine s_ret (ev_call (ea_cons (ev_var rfl) ea_nil) (spv_D (Dt.ex ((e1.trans e2).trans e3) hd) hs)) fun H4 e4 => ?_
    have g := q H4 (((e1.trans e2).trans e3).trans e4)
    unfold fitsC at g
    rw [if_neg (ne ov hb), if_neg (ne oi hb2), if_neg (ne ok hb3)] at g
    exact g
end
end Cr
namespace Cr
open PySem PySem.Spec PyProof.Rows L2 Evl
theorem ev_dnotin {ty td : TE} {σ : L2.St} {H : Hp} {a : Addr} {z : Str} {kvs : List (Key × V)} (hy : Ev ty σ H (.str z)) (hd : Ev td σ H (.ref a)) (h : H a = some (.dK kvs)) : Ev (tDNotIn ty td) σ H (.bl (!(valV kvs (.inr z)).isSome)) := fun H1 e Q q =>
  hy H1 e _ fun H2 e2 => hd H2 (e.trans e2) _ fun H3 e3 => ⟨a, _, rfl, DGet.k (k := .inr z) (((e.trans e2).trans e3) _ _ h), q H3 (e2.trans e3)⟩
theorem ev_dget {ty td : TE} {σ : L2.St} {H : Hp} {a : Addr} {z : Str} {kvs : List (Key × V)} {v : V} (hd : Ev td σ H (.ref a)) (hy : Ev ty σ H (.str z)) (h : H a = some (.dK kvs)) (hv : valV kvs (.inr z) = some v) : Ev (tDGet td ty) σ H v := fun H1 e Q q =>
  hd H1 e _ fun H2 e2 => hy H2 (e.trans e2) _ fun H3 e3 => ⟨a, v, rfl, by rw [← hv]; exact DGet.k (k := .inr z) (((e.trans e2).trans e3) _ _ h), q H3 (e2.trans e3)⟩
def forms7 : List (Key × V) := [(.inr "set", .str "vi"), (.inr "add", .str "vv"), (.inr "skip", .str "vk"), (.inr "export", .str "nv"), (.inr "read", .str "vnn"), (.inr "need", .str "n"), (.inr "try", .str "nv")]
theorem forms_put : putK (mergeK [] forms7) (.inr "fail") (.str "") = forms8 := by decide +kernel
section
variable {P : Program} {w : World} {K : PySem.W.Frag} {mg : Str → Option Value} {base : Heap}
theorem ok_rightStep {f : Addr} {fd : FuncData} {k : Nat} (F : Fun K "_law_is_right_step" "_law_is_right_step" sRightStep f fd) (B : Blt mg)
    (FT : Has P w K mg base k "_law_fits" ["_law_sort", "_law_value"] spFits) : FnG P w K mg base CX0 (k + 1) f fd ["_law_value"] (spD isStep) := by
  obtain ⟨fT, fdT, GT, bT, kT, gT⟩ := FT.ex
  refine okG F scRightStep spD_len (fun cdv A outer s H vs Q E hq hr h => ?_)
  obtain ⟨v, d, rfl, hd, hs, q⟩ := h
  have hu := hu_of hr
  refine ⟨_, pss_cons (ps_set (i := 1) scRightStep.nd rfl (.inl rfl) (pe_disp (pps_cons pe_str pe_str (pps_cons pe_str pe_str (pps_cons pe_str pe_str (pps_cons pe_str pe_str (pps_cons pe_str pe_str (pps_cons pe_str pe_str (pps_cons pe_str pe_str pps_nil))))))) (by rfl) (by rfl) (fun z => by cases z) (by decide)))
    (pss_cons (ps_dput hu (pv 1) pe_str pe_str rfl)
    (pss_cons (ps_if (PW.pt (pw_or (pt_not (pt_val (pe_callB call_isi (by rfl) B.isi bIsi (pa_cons (pv 0) (pa_cons (pe_bltn (v := .ty "tuple") (by rfl) B.tuple bTuple rfl) pa_nil)))))
      (pw_or (pt_cmpR (op_eqT0 hr.units0) (pv 0) (pe_tup pa_nil) (nomark _))
      (pw_or (pt_not (pt_val (pe_callB call_isi (by rfl) B.isi bIsi (pa_cons (pe_ix ix_tup (pv 0) pe_int (fun _ _ => rfl)) (pa_cons (pe_bltn (v := .ty "str") (by rfl) B.str bStr rfl) pa_nil)))))
      (pw_or1 (pt_cmp (pc_dnotin hu (pe_ix ix_tup (pv 0) pe_int (fun _ _ => rfl)) (pv 1)))))))) (pss_one (ps_ret pe_bl)) pss_nil)
    (pss_cons (ps_set (i := 2) scRightStep.nd rfl (.inl rfl) (pe_dget hu (pv 1) (pe_ix ix_tup (pv 0) pe_int (fun _ _ => rfl)) (fun _ _ => rfl)))
    (pss_cons (ps_if (pt_cmpR op_ne (pe_callB call_len_str (by rfl) B.len bLen (pa_cons (pv 2) pa_nil)) (pe_op op_sub (pe_callB call_len_seq (by rfl) B.len bLen (pa_cons (pv 0) pa_nil)) pe_int) (nomark _)) (pss_one (ps_ret pe_bl)) pss_nil)
    (pss_one (ps_ret (pe_callB (cr_all rfl) (by rfl) B.all bAll (pa_cons
      (pe_lc (own := [("_law_sort", 3), ("_law_one", 4)]) (g := gTup K 2 (gCons (gName 3) (gCons (gName 4) gNil))) (tt := tYes) rfl scRightStep.nd (pi_zipS (by rfl) B.zip (pa_cons (pv 2) (pa_cons (pe_slice sl_tup (pv 0) (po_some pe_int) po_none) pa_nil))) (blkOk_by (own := [("_law_sort", 3), ("_law_one", 4)]) (N := nRs) (sc := defScope sRightStep) (by decide +kernel))
        (fun _ _ _ _ _ => by exact pg_tup rfl (pgs_cons (pg_name (i := 3) scRightStep.nd rfl (Or.inl rfl)) (pgs_cons (pg_name (i := 4) scRightStep.nd rfl (Or.inl rfl)) pgs_nil))) (fun _ _ _ _ _ => pts_nil)
        (fun _ _ _ _ _ => callG GT hq hr (by rfl) gT kT bT .nil pass0 (pa_cons (pv 3) (pa_cons (pv 4) pa_nil)))) pa_nil)))))))), ?_⟩
  refine fun fp nfp => ⟨upd_same, forms7, rfl, by decide, ?_⟩
  refine ⟨.ref fp, rfl, fp, _, rfl, DPut.k (k := .inr "fail") upd_same (sz_lt (by decide +kernel)), ?_⟩
  have eu : upd (upd (upd H fp (.dK [])) fp (.dK (mergeK [] forms7))) fp (.dK (putK (mergeK [] forms7) (.inr "fail") (.str ""))) = upd H fp (.dK forms8) := by
    rw [upd_upd, upd_upd, forms_put]
  rw [eu]
  have e0 : Ex H (upd H fp (.dK forms8)) := Ex.new nfp
  have hf0 : (upd H fp (.dK forms8)) fp = some (.dK forms8) := upd_same
  generalize upd H fp (.dK forms8) = H0 at e0 hf0
  have hd0 := Dt.ex e0 hd
  have isS := rc_isi (K := K) hd0 memT
  by_cases ht : ∃ ds, d = .tuple ds
  · obtain ⟨ds, rfl⟩ := ht
    have ha : ∃ a, v = .ref a := by cases hd; exact ⟨_, rfl⟩
    obtain ⟨a, rfl⟩ := ha
    obtain ⟨xs, hx, hds⟩ := dt_tup hd0
    have isY : isT "tuple" (.tuple ds) = true := rfl
    have evE : ∀ {H' : Hp}, Ex H0 H' → EvT (tTest (tOp (rEqT0 K) (tVar 0) (tTup tNil))) [some (.ref a), some (.ref fp), none, none, none] H' xs.isEmpty := fun e' => et_test (ev_opU (ev_var rfl) (eu_tup ea_nil (Nat.zero_le _)) fun p2 H2 hp2 e2 => rv_val fun H3 e3 Q q => ⟨a, p2, xs, rfl, rfl, st_of (((e'.trans e2).trans e3) _ _ hx), st_of (e3 _ _ hp2), q⟩)
    cases hds with
    | nil =>
      refine q_when (b := true) (et_is (et_or (et_not (et_B (ev_cb (ea_cons (ev_var rfl) (ea_cons ev_c ea_nil)) isS))) (b := true) fun _ => et_is (et_or (evE (Ex.refl H0)) (b := true) fun z => absurd z (by decide)) (Bool.or_true _)) (Bool.or_true _)) (fun _ H1 e1 => s_ret ev_c fun H2 e2 => q H2 ((e0.trans e1).trans e2)) (fun z => absurd z (by decide))
    | @cons v0 xs' d0 ds' h0 hr' =>
    have ix0 : ∀ {H' : Hp}, Ex H0 H' → ∀ {σ : L2.St}, σ[0]? = some (some (.ref a)) → Ev (tOp (rIxT K) (tVar 0) (tC (.int 0))) σ H' v0 := fun e0 σ hσ => ev_op (ev_var hσ) ev_c (rv_ixT (st_of (e0 _ _ hx)) (atI_nat (j := 0) rfl))
    have isS0 := rc_isi (K := K) h0 memS
    by_cases hstr : ∃ z, d0 = .str z
    · obtain ⟨z, rfl⟩ := hstr
      cases h0
      have test : ∀ b : Bool, (!(valV forms8 (.inr z)).isSome) = b → EvT (tOr (tNot (tB (tCB (rIsi K) (tCons (tVar 0) (tCons (tC (.ty "tuple")) tNil))))) (tOr (tTest (tOp (rEqT0 K) (tVar 0) (tTup tNil))) (tOr (tNot (tB (tCB (rIsi K) (tCons (tOp (rIxT K) (tVar 0) (tC (.int 0))) (tCons (tC (.ty "str")) tNil))))) (tB (tDNotIn (tOp (rIxT K) (tVar 0) (tC (.int 0))) (tVar 1)))))) [some (.ref a), some (.ref fp), none, none, none] H0 b := fun b hb => by
        refine et_is (et_or (b := b) (et_not (et_B (ev_cb (ea_cons (ev_var rfl) (ea_cons ev_c ea_nil)) isS))) fun _ => ?_) rfl
        refine et_is (et_or (b := b) (evE (Ex.refl H0)) fun _ => ?_) rfl
        refine et_is (et_or (b := b) (et_not (et_B (ev_cb (ea_cons (ix0 (Ex.refl H0) rfl) (ea_cons ev_c ea_nil)) isS0))) fun _ => ?_) rfl
        exact et_is (et_B (ev_dnotin (ix0 (Ex.refl H0) rfl) (ev_var rfl) hf0)) hb
      rcases form_shape z with ⟨hf, hsh⟩ | ⟨fm, ks, hf, hsh, hlen, h3, hfit⟩
      · refine q_when (test true (by rw [form_val, hf]; rfl)) (fun _ H1 e1 => s_ret ev_c fun H2 e2 => ?_) (fun z => absurd z (by decide))
        have g := q H2 ((e0.trans e1).trans e2)
        have zz : isStep (.tuple (.str z :: ds')) = false := by
          show (match shapeOf z with | some ks => _ | none => false) = false
          rw [hsh]
        rw [zz] at g
        exact g
      · refine q_when (test false (by rw [form_val, hf]; rfl)) (fun z => absurd z (by decide)) (fun _ H1 e1 => ?_)
        refine q_asg (v := .str fm) (ev_dget (ev_var rfl) (ix0 e1 rfl) (e1 _ _ hf0) (by rw [form_val, hf]; rfl)) fun H2 e2 => ?_
        have e12 := e1.trans e2
        have zz := isStep_eq (ds := ds') hsh
        have lx := hr'.length
        refine q_when (b := !decide (ds'.length = ks.length)) (et_is (et_test (ev_op (ev_cb (ea_cons (ev_var rfl) ea_nil) (rc_lenS (by omega))) (ev_op (ev_cb (ea_cons (ev_var rfl) ea_nil) (rc_lenT (st_of (e12 _ _ hx)))) ev_c rv_I0) (rv_ne rfl))) ?_) (fun hb2 H4 e4 => s_ret ev_c fun H5 e5 => ?_) (fun hb2 H4 e4 => ?_)
        · show (!decide (V.int (fm.length : Int) = V.int (((V.str z :: xs').length : Nat) - 1 : Int))) = _
          congr 1
          rw [List.length_cons]
          by_cases hh : ds'.length = ks.length
          · rw [decide_eq_true hh, decide_eq_true]
            congr 1
            omega
          · rw [decide_eq_false hh, decide_eq_false]
            intro hz
            have := V.int.inj hz
            omega
        · have g := q H5 (((e0.trans e12).trans e4).trans e5)
          rw [zz] at g
          rw [Bool.not_eq_true'] at hb2
          rw [hb2, Bool.false_and] at g
          exact g
        · rw [Bool.not_eq_false'] at hb2
          have hh := of_decide_eq_true hb2
          have e14 := e12.trans e4
          have hsd : smAll ds' = true := by
            rw [sm, Bool.and_eq_true, smAll, Bool.and_eq_true] at hs
            exact hs.2.2
          have lf : fm.cps.size = ks.length := hlen
          have lc := el_lcW (wi := iZipS K (tCons (tVar 2) (tCons (tSl (rSlT K) (tVar 0) (tPart (tC (.int 1))) tNoPart) tNil))) (g := gTup K 2 (gCons (gName 3) (gCons (gName 4) gNil))) (tt := tYes) (te := tCall spFits [] E0 (tCons (tVar 3) (tCons (tVar 4) tNil))) (vs := [3, 4])
            (σ := [some (.ref a), some (.ref fp), some (.str fm), none, none]) (H := H4) (n := ks.length) (Y := YPair (fun i => (fm.cps[i]?).map fun c => .str ⟨#[c]⟩) fun i => xs'[i]?) (fun _ => true) (fun i => .bl (isItem (ds'.getD i .none) (ks.getD i ""))) (by omega)
            (fun H5 e5 R r => by
              refine ⟨.str fm, rfl, eu_tail (ev_var rfl) (st_of ((e14.trans e5) _ _ hx)) H5 (Ex.refl H5) _ fun p H6 hp e6 h6 => ?_⟩
              exact ⟨fm, p, xs', rfl, st_of h6, r H6 _ _ (walk_zipS (x := fm) (ys := xs') (by omega)) (fun H7 H8 e7 z => ex_t e7 z) e6 (st_of h6)⟩)
            (fun i y H5 H6 e5 hi hy => by
              obtain ⟨T, x1, y1, rfl, hT, rfl, hx1, hy1⟩ := hy
              obtain ⟨d1, hd1, dd1⟩ := hr'.get hy1
              have hi2 : i < fm.cps.size := by omega
              have hc1 : fm.cps[i]? = some (fm.cps.toList.getD i 0) := by
                rw [List.getD, Array.getElem?_toList, Array.getElem?_eq_getElem hi2]
                rfl
              have ex1 : x1 = V.str ⟨#[fm.cps.toList.getD i 0]⟩ := by
                have z2 : (fm.cps[i]?).map (fun c => V.str ⟨#[c]⟩) = some x1 := hx1
                rw [hc1] at z2
                exact (Option.some.inj z2).symm
              have ed : ds'.getD i .none = d1 := by rw [List.getD, hd1]; rfl
              subst ex1
              refine ⟨Ex.new hT, [some (.ref a), some (.ref fp), some (.str fm), some (.str ⟨#[fm.cps.toList.getD i 0]⟩), some y1], rfl, fun R r => pair_go upd_same r, fun H7 _ Q q => q H7 (Ex.refl H7), fun _ => ?_⟩
              rw [ed, ← hfit i hi]
              refine ev_call (ea_cons (ev_var rfl) (ea_cons (ev_var rfl) ea_nil)) fun H7 e7 Q q E => ⟨fm.cps.toList.getD i 0, y1, d1, rfl, Dt.ex (((e14.trans e5).trans (Ex.new hT)).trans e7) dd1, smAll_get hsd hd1, q⟩)
          have eg : given ks.length (fun _ => true) (fun i => V.bl (isItem (ds'.getD i .none) (ks.getD i ""))) = ((List.range ks.length).map fun i => isItem (ds'.getD i .none) (ks.getD i "")).map V.bl := by
            rw [given_all, List.map_map]; rfl
          rw [eg] at lc
          refine s_ret (ev_all lc) fun H5 e5 => ?_
          have g := q H5 ((e0.trans e14).trans e5)
          rw [zz, decide_eq_true hh, Bool.true_and] at g
          exact g
    · have ns : isT "str" d0 = false := by
        cases d0 with
        | str z => exact absurd ⟨z, rfl⟩ hstr
        | _ => rfl
      refine q_when (b := true) (et_is (et_or (et_not (et_B (ev_cb (ea_cons (ev_var rfl) (ea_cons ev_c ea_nil)) isS))) (b := true) fun _ => et_is (et_or (evE (Ex.refl H0)) (b := true) fun _ => et_is (et_or (et_not (et_B (ev_cb (ea_cons (ix0 (Ex.refl H0) rfl) (ea_cons ev_c ea_nil)) isS0))) (b := true) fun z => absurd z (by rw [ns]; decide)) (Bool.or_true _)) (Bool.or_true _)) (Bool.or_true _)) (fun _ H2 e2 => s_ret ev_c fun H3 e3 => ?_) (fun z => absurd z (by decide))
      have g := q H3 ((e0.trans e2).trans e3)
      cases d0 with
      | str z => exact absurd ⟨z, rfl⟩ hstr
      | _ => exact g
  · have nt : isT "tuple" d = false := by
      cases d with
      | tuple ds => exact absurd ⟨ds, rfl⟩ ht
      | _ => rfl
    refine q_when (b := true) (et_is (et_or (et_not (et_B (ev_cb (ea_cons (ev_var rfl) (ea_cons ev_c ea_nil)) isS))) (b := true) fun z => absurd z (by rw [nt]; decide)) (Bool.or_true _)) (fun _ H1 e1 => s_ret ev_c fun H2 e2 => ?_) (fun z => absurd z (by decide))
    have g := q H2 ((e0.trans e1).trans e2)
    cases d with
    | tuple ds => exact absurd ⟨ds, rfl⟩ ht
    | _ => exact g
end
end Cr
namespace Cr
open PySem PySem.Spec PyProof.Rows L2 Evl
abbrev sOdd : Stmt := topS 25
abbrev sChanged : Stmt := topS 26
abbrev nChanged : List Str := ["_law_pot_here", "_law_step_here", "_law_way", "_law_found", "_law_at"]
theorem scOdd : FnScope ["_law_pot_here", "_law_odd_here"] ["_law_pot_here"] (defScope sOdd) := ⟨rfl, rfl, rfl, by decide +kernel, rfl, by decide +kernel, by decide +kernel⟩
theorem scChanged : FnScope nChanged ["_law_pot_here", "_law_step_here"] (defScope sChanged) := ⟨rfl, rfl, rfl, by decide +kernel, rfl, by decide +kernel, by decide +kernel⟩
/-! ### sizes -/
def gB (b m : Nat) (d : PyData) : Bool := sm d && d.showable && d.leavesShort 40 && decide (d.bulk ≤ b) && decide (d.depth ≤ m)
abbrev gs (d : PyData) : Bool := gB 40 2 d
abbrev gd (d : PyData) : Bool := gB 400 5 d
theorem gB_iff {b m : Nat} {d : PyData} : gB b m d = true ↔ sm d = true ∧ d.showable = true ∧ d.leavesShort 40 = true ∧ d.bulk ≤ b ∧ d.depth ≤ m := by
  unfold gB
  simp only [Bool.and_eq_true, decide_eq_true_eq, and_assoc]
theorem gs_gd {d : PyData} (h : gs d = true) : gd d = true := by
  obtain ⟨h1, h2, h3, h4, h5⟩ := gB_iff.mp h
  exact gB_iff.mpr ⟨h1, h2, h3, by omega, by omega⟩
theorem gs_all : ∀ {ds : List PyData}, ds.all gs = true → smAll ds = true ∧ PyData.showableAll ds = true ∧ PyData.leavesShortAll 40 ds = true ∧ PyData.bulkAll ds ≤ 41 * ds.length ∧ PyData.depthAll ds ≤ 2
  | [], _ => by
    refine ⟨by rw [smAll], by rw [PyData.showableAll], by rw [PyData.leavesShortAll], by rw [PyData.bulkAll]; exact Nat.zero_le _, by rw [PyData.depthAll]; exact Nat.zero_le _⟩
  | d :: r, h => by
    rw [List.all_cons, Bool.and_eq_true] at h
    obtain ⟨h1, h2, h3, h4, h5⟩ := gB_iff.mp h.1
    obtain ⟨r1, r2, r3, r4, r5⟩ := gs_all h.2
    refine ⟨by rw [smAll, h1, r1]; rfl, by rw [PyData.showableAll, h2, r2]; rfl, by rw [PyData.leavesShortAll, h3, r3]; rfl, ?_, ?_⟩
    · rw [PyData.bulkAll, List.length_cons]
      omega
    · rw [PyData.depthAll]
      exact Nat.max_le.mpr ⟨h5, r5⟩
theorem gd_list {ds : List PyData} (h : ds.all gs = true) (l : ds.length ≤ 6) : gd (.list ds) = true := by
  obtain ⟨r1, r2, r3, r4, r5⟩ := gs_all h
  refine gB_iff.mpr ⟨?_, ?_, ?_, ?_, ?_⟩
  · rw [sm, r1, decide_eq_true (show ds.length ≤ 1000 by omega)]; rfl
  · rw [PyData.showable]; exact r2
  · rw [PyData.leavesShort]; exact r3
  · rw [PyData.bulk]; omega
  · rw [PyData.depth]; omega
theorem gd_tuple {ds : List PyData} (h : ds.all gs = true) (l : ds.length ≤ 6) : gd (.tuple ds) = true := by
  obtain ⟨r1, r2, r3, r4, r5⟩ := gs_all h
  refine gB_iff.mpr ⟨?_, ?_, ?_, ?_, ?_⟩
  · rw [sm, r1, decide_eq_true (show ds.length ≤ 1000 by omega)]; rfl
  · rw [PyData.showable]; exact r2
  · rw [PyData.leavesShort]; exact r3
  · rw [PyData.bulk]; omega
  · rw [PyData.depth]; omega
theorem gd_fits {d : PyData} (h : gd d = true) : Fits d := by
  obtain ⟨h1, h2, h3, h4, h5⟩ := gB_iff.mp h
  refine ⟨h2, by omega, ?_⟩
  have := PyData.shown_le_bulk 40 (by decide) d h3
  rw [sizeLine_eq]
  omega
theorem gs_leaf {v : V} (h : leafOk v = true) : gs (flD v) = true := by
  cases v with
  | non => decide +kernel
  | bl b => cases b <;> decide +kernel
  | int i =>
    have hi : i.natAbs ≤ 10 ^ 30 := of_decide_eq_true h
    have e30 : (10 : Nat) ^ 30 < 2 ^ 100 := by decide
    refine gB_iff.mpr ⟨rfl, ?_, ?_, Nat.zero_le _, Nat.zero_le _⟩
    · show (PyData.int i).showable = true
      rw [PyData.showable]
      refine decide_eq_true ?_
      by_cases hz : i.natAbs = 0
      · rw [hz]; decide
      · have := (Nat.log2_lt (k := 100) hz).mpr (by omega)
        omega
    · show (PyData.int i).leavesShort 40 = true
      rw [PyData.leavesShort]
      refine decide_eq_true ?_
      have e := int_text_length_le10 (k := 31) (a := i) (by decide) (Nat.lt_of_le_of_lt hi (by decide))
      show (Str.ofString (toString i)).length ≤ 40
      rw [PySem.ofString_length]
      omega
  | str x =>
    have hx : (decide (x.length ≤ 9) && x.cps.toList.all fun c => decide (c < 128)) = true := h
    rw [Bool.and_eq_true] at hx
    have h9 := of_decide_eq_true hx.1
    refine gB_iff.mpr ⟨?_, rfl, ?_, ?_, Nat.zero_le _⟩
    · show sm (.str x) = true
      rw [sm]
      exact decide_eq_true (by omega)
    · show (PyData.str x).leavesShort 40 = true
      rw [PyData.leavesShort]
      refine List.all_eq_true.mpr fun c hc => ?_
      have := of_decide_eq_true (List.all_eq_true.mp hx.2 c hc)
      exact decide_eq_true (Nat.lt_trans this (by decide))
    · show (PyData.str x).bulk ≤ 40
      rw [PyData.bulk]
      have : x.cps.size = x.length := rfl
      omega
  | _ => exact absurd h (fun z => nomatch z)
theorem gs_leaves : ∀ {xs : List V}, xs.all leafOk = true → (xs.map flD).all gs = true
  | [], _ => rfl
  | x :: r, h => by
    rw [List.all_cons, Bool.and_eq_true] at h
    rw [List.map_cons, List.all_cons, gs_leaf h.1, gs_leaves h.2]; rfl

/-! ### what is new -/
def nw (H H' : Hp) : Hp := fun a => if H a = none then H' a else none
theorem nw_new {H H' : Hp} {a : Addr} (h : H a = none) : nw H H' a = H' a := if_pos h
theorem nw_some {H H' : Hp} {a : Addr} {o : HO} (h : nw H H' a = some o) : H a = none ∧ H' a = some o := by
  by_cases e : H a = none
  · rw [nw_new e] at h
    exact ⟨e, h⟩
  · unfold nw at h
    rw [if_neg e] at h
    cases h
theorem nw_ex (H H' : Hp) : Ex (nw H H') H' := fun a o h => (nw_some h).2
theorem nw_mono {p : Addr} {H H1 H2 : Hp} (pot : Pot H p) (d : Drew p H1 H2) : Ex (nw H H1) (nw H H2) := fun a o h => by
  obtain ⟨h1, h2⟩ := nw_some h
  rw [nw_new h1]
  refine d.at (fun e => ?_) h2
  obtain ⟨x, y, z, _⟩ := pot
  rw [← e, h1] at z
  cases z
theorem pot_none {H : Hp} {p a : Addr} (pot : Pot H p) (h : H a = none) : a ≠ p := fun e => by
  obtain ⟨x, y, z, _⟩ := pot
  rw [← e, h] at z
  cases z
theorem cast_drew {p : Addr} {H Hf H' : Hp} (_ : Ex H Hf) (d : Drew p Hf H') : Drew p Hf H' := d
/-- an odd value -/
def spOdd : Sp := fun vs H Q _ => ∃ p : Addr, vs = [.ref p] ∧ Pot H p ∧ ∀ v d H', Dt (nw H H') v d → gs d = true → Drew p H H' → Q v H'
/-- a changed step -/
def spChanged : Sp := fun vs H Q _ => ∃ (p t : Addr) (xs : List V), vs = [.ref p, .ref t] ∧ Pot H p ∧ H t = some (.tup xs) ∧ StepOk xs ∧ ∀ v d H', Dt (nw H H') v d → gd d = true → Drew p H H' → Q v H'

section
variable {P : Program} {w : World} {K : PySem.W.Frag} {mg : Str → Option Value} {base : Heap}
theorem ok_odd {f : Addr} {fd : FuncData} {k : Nat} (F : Fun K "_law_odd" "_law_odd" sOdd f fd) (C : Has P w K mg base k "_law_choice" ["_law_pot_here", "_law_options"] spChoice) :
    FnG P w K mg base CX0 (k + 1) f fd ["_law_pot_here"] spOdd := by
  obtain ⟨fC, fdC, GC, bC, kC, gC⟩ := C.ex
  refine okG F scOdd (fun vs H Q E h => by obtain ⟨_, rfl, _⟩ := h; rfl) (fun cdv A outer s H vs Q E hq hr h => ?_)
  obtain ⟨p, rfl, pot, q⟩ := h
  refine ⟨_, pss_cons (ps_set (i := 1) scOdd.nd rfl (.inl rfl) (pe_lst (pa_cons pe_non (pa_cons pe_int (pa_cons pe_int (pa_cons (pe_un un_neg pe_int) (pa_cons pe_bl (pa_cons pe_bl (pa_cons pe_str (pa_cons pe_str (pa_cons pe_str (pa_cons pe_str (pa_cons pe_str (pa_cons pe_str (pa_cons pe_str (pa_cons pe_str (pa_cons pe_str (pa_cons (pe_tup pa_nil) pa_nil))))))))))))))))))
    (pss_cons (ps_set (i := 1) scOdd.nd rfl (.inl rfl) (pe_op op_cat (pv 1) (pe_lst (pa_cons (pe_lst pa_nil) (pa_cons pe_dnewK pa_nil)))))
    (pss_one (ps_ret (callG GC hq hr (by rfl) gC kC bC .nil pass0 (pa_cons (pv 0) (pa_cons (pe_op op_cat (pv 1) (pe_lst (pa_cons (pe_tup (pa_cons pe_str pa_nil)) (pa_cons (pe_lst (pa_cons pe_str pa_nil)) (pa_cons (pe_disp (pps_cons pe_str pe_int pps_nil) (by rfl) (by rfl) (fun z => by cases z) (by decide))
      (pa_cons (pe_op op_pow pe_int pe_int) (pa_cons (pe_op op_sub pe_int (pe_op op_pow pe_int pe_int)) (pa_cons pe_str (pa_cons pe_str (pa_cons pe_str (pa_cons (pe_tup (pa_cons pe_str pa_nil)) (pa_cons pe_str pa_nil)))))))))))) pa_nil)))))), ?_⟩
  refine ⟨1, rfl, Nat.zero_le _, fun t1 z1 => ?_⟩
  refine ⟨by show 16 ≤ sizeLine; decide, fun l1 z2 => ?_⟩
  refine ⟨.ref l1, rfl, Nat.zero_le _, fun l2 z3 => ?_⟩
  refine fun d1 z4 => ?_
  refine ⟨by show 2 ≤ sizeLine; decide, fun l3 z5 => ?_⟩
  have e1 := Ex.new (o := .tup []) z1
  have e2 := Ex.new (o := .lst [.non, .int 0, .int 1, .int (-1), .bl true, .bl false, .str "", .str "a", .str "A", .str "aB", .str "ninechars", .str "abcdefgh", .str "abcdefghi", .str "a b", .str "z1", .ref t1]) z2
  have e3 := Ex.new (o := .lst []) z3
  have e4 := Ex.new (o := .dK []) z4
  have e5 := Ex.new (o := .lst [.ref l2, .ref d1]) z5
  refine ⟨l1, l3, _, _, rfl, rfl, ((e3.trans e4).trans e5) _ _ upd_same, upd_same, by show 18 ≤ sizeLine; decide, fun l4 z6 => ?_⟩
  have e6 := Ex.new (o := .lst [.non, .int 0, .int 1, .int (-1), .bl true, .bl false, .str "", .str "a", .str "A", .str "aB", .str "ninechars", .str "abcdefgh", .str "abcdefghi", .str "a b", .str "z1", .ref t1, .ref l2, .ref d1]) z6
  refine ⟨.ref p, rfl, .ref l4, rfl, by show 1 ≤ sizeLine; decide, fun t2 z7 => ?_⟩
  refine ⟨by show 1 ≤ sizeLine; decide, fun l5 z8 => ?_⟩
  refine fun d2 z9 => ⟨upd_same, [(.inr "a", .int 1)], rfl, by decide, ?_⟩
  have em : mergeK [] [((Sum.inr "a" : Key), V.int 1)] = [((Sum.inr "a" : Key), V.int 1)] := by decide +kernel
  rw [upd_upd, em]
  have e7 := Ex.new (o := .tup [.str "a"]) z7
  have e8 := Ex.new (o := .lst [.str "a"]) z8
  have e9 := Ex.new (o := .dK [(.inr "a", .int 1)]) z9
  have p29 : (10 : Int) ^ (29 : Int).toNat = 100000000000000000000000000000 := by decide
  refine ⟨10, 29, rfl, rfl, ⟨by decide, by decide, by decide⟩, 10, 29, rfl, rfl, ⟨by decide, by decide, by decide⟩, 0, _, rfl, rfl, ?_⟩
  refine ⟨by show 1 ≤ sizeLine; decide, fun t3 z10 => ?_⟩
  refine ⟨by show 10 ≤ sizeLine; decide, fun l6 z11 => ?_⟩
  have e10 := Ex.new (o := .tup [.str "fail"]) z10
  have e11 := Ex.new (o := .lst [.ref t2, .ref l5, .ref d2, .int ((10 : Int) ^ (29 : Int).toNat), .int (0 - (10 : Int) ^ (29 : Int).toNat), .str "ab", .str "e", .str "set", .ref t3, .str "-"]) z11
  refine ⟨l4, l6, _, _, rfl, rfl, ((((e7.trans e8).trans e9).trans e10).trans e11) _ _ upd_same, upd_same, by show 28 ≤ sizeLine; decide, fun l7 z12 => ?_⟩
  have e12 := Ex.new (o := .lst [.non, .int 0, .int 1, .int (-1), .bl true, .bl false, .str "", .str "a", .str "A", .str "aB", .str "ninechars", .str "abcdefgh", .str "abcdefghi", .str "a b", .str "z1", .ref t1, .ref l2, .ref d1, .ref t2, .ref l5, .ref d2, .int ((10 : Int) ^ (29 : Int).toNat), .int (0 - (10 : Int) ^ (29 : Int).toNat), .str "ab", .str "e", .str "set", .ref t3, .str "-"]) z12
  have c11 := e11.trans e12
  have c10 := e10.trans c11
  have c9 := e9.trans c10
  have c8 := e8.trans c9
  have c7 := e7.trans c8
  have c6 := e6.trans c7
  have c5 := e5.trans c6
  have c4 := e4.trans c5
  have c3 := e3.trans c4
  have c2 := e2.trans c3
  have c1 := e1.trans c2
  have b2 := e1.trans e2
  have b3 := b2.trans e3
  have b5 := (b3.trans e4).trans e5
  have b6 := b5.trans e6
  have b7 := b6.trans e7
  have b8 := b7.trans e8
  have b9 := b8.trans e9
  have pot2 := pot.ex c1
  have l7n : H l7 = none := fresh_back ((b9.trans e10).trans e11) z12
  refine ⟨p, pot2, .inl ⟨l7, _, rfl, pot_none pot l7n, upd_same, Nat.succ_pos _, by show 28 ≤ 1000; decide, fun v H' hv dr => ?_⟩⟩
  have dr2 := cast_drew c1 dr
  clear dr
  generalize hHk : upd _ l7 _ = Hk at c1 c2 c3 c4 c5 c6 c7 c8 c9 c10 c11 e12 dr2
  have nwt : ∀ {a : Addr} {o : HO}, H a = none → Hk a = some o → nw H Hk a = some o := fun h h' => by rw [nw_new h]; exact h'
  have dts : DtAll (nw H Hk) [.non, .int 0, .int 1, .int (-1), .bl true, .bl false, .str "", .str "a", .str "A", .str "aB", .str "ninechars", .str "abcdefgh", .str "abcdefghi", .str "a b", .str "z1", .ref t1, .ref l2, .ref d1, .ref t2, .ref l5, .ref d2, .int ((10 : Int) ^ (29 : Int).toNat), .int (0 - (10 : Int) ^ (29 : Int).toNat), .str "ab", .str "e", .str "set", .ref t3, .str "-"]
      [.none, .int 0, .int 1, .int (-1), .bool true, .bool false, .str "", .str "a", .str "A", .str "aB", .str "ninechars", .str "abcdefgh", .str "abcdefghi", .str "a b", .str "z1", .tuple [], .list [], .dict [], .tuple [.str "a"], .list [.str "a"], .dict [(.str "a", .int 1)], .int ((10 : Int) ^ (29 : Int).toNat), .int (0 - (10 : Int) ^ (29 : Int).toNat), .str "ab", .str "e", .str "set", .tuple [.str "fail"], .str "-"] := by
    refine .cons .non (.cons (.int _) (.cons (.int _) (.cons (.int _) (.cons (.bl _) (.cons (.bl _) (.cons (.str _) (.cons (.str _) (.cons (.str _) (.cons (.str _) (.cons (.str _) (.cons (.str _) (.cons (.str _) (.cons (.str _) (.cons (.str _) (.cons (.tup (nwt z1 (c2 _ _ upd_same)) .nil) (.cons (.lst (nwt (fresh_back b2 z3) (c4 _ _ upd_same)) .nil) (.cons (.dct (nwt (fresh_back b3 z4) (c5 _ _ upd_same)) .nil) ?_)))))))))))))))))
    refine .cons (.tup (nwt (fresh_back b6 z7) (c8 _ _ upd_same)) (.cons (.str _) .nil)) (.cons (.lst (nwt (fresh_back b7 z8) (c9 _ _ upd_same)) (.cons (.str _) .nil)) (.cons (.dct (nwt (fresh_back b8 z9) (c10 _ _ upd_same)) (.cons (k := .inr "a") (.int _) .nil)) ?_))
    refine .cons (.int _) (.cons (.int _) (.cons (.str _) (.cons (.str _) (.cons (.str _) (.cons (.tup (nwt (fresh_back b9 z10) (c11 _ _ upd_same)) (.cons (.str _) .nil)) (.cons (.str _) .nil))))))
  have good : ([.none, .int 0, .int 1, .int (-1), .bool true, .bool false, .str "", .str "a", .str "A", .str "aB", .str "ninechars", .str "abcdefgh", .str "abcdefghi", .str "a b", .str "z1", .tuple [], .list [], .dict [], .tuple [.str "a"], .list [.str "a"], .dict [(.str "a", .int 1)], .int ((10 : Int) ^ (29 : Int).toNat), .int (0 - (10 : Int) ^ (29 : Int).toNat), .str "ab", .str "e", .str "set", .tuple [.str "fail"], .str "-"] : List PyData).all gs = true := by decide +kernel
  obtain ⟨i, hi⟩ := List.getElem?_of_mem hv
  obtain ⟨d, hd, dd⟩ := dts.get (i := i) (v := v) hi
  exact q v d H' (Dt.ex (nw_mono pot dr2) dd) (List.all_eq_true.mp good d (List.mem_of_getElem? hd)) ((Drew.of pot c1).trans dr2)
end
end Cr
namespace Cr
open PySem PySem.Spec PyProof.Rows L2 Evl
def itm (H : Hp) (l : Addr) (H' : Hp) : Hp := fun a => if H a = none ∧ a ≠ l then H' a else none
theorem itm_new {H H' : Hp} {l a : Addr} (h : H a = none) (n : a ≠ l) : itm H l H' a = H' a := if_pos ⟨h, n⟩
theorem itm_some {H H' : Hp} {l a : Addr} {o : HO} (h : itm H l H' a = some o) : H a = none ∧ a ≠ l ∧ H' a = some o := by
  by_cases e : H a = none ∧ a ≠ l
  · rw [itm_new e.1 e.2] at h
    exact ⟨e.1, e.2, h⟩
  · unfold itm at h
    rw [if_neg e] at h
    cases h
theorem itm_mono {p l : Addr} {H H1 H2 : Hp} (pot : Pot H p) (d : Drew p H1 H2) : Ex (itm H l H1) (itm H l H2) := fun a o h => by
  obtain ⟨h1, h2, h3⟩ := itm_some h
  rw [itm_new h1 h2]
  exact d.at (pot_none pot h1) h3
theorem itm_ex {l : Addr} {H H1 H2 : Hp} (e : Ex H1 H2) : Ex (itm H l H1) (itm H l H2) := fun a o h => by
  obtain ⟨h1, h2, h3⟩ := itm_some h
  rw [itm_new h1 h2]
  exact e a o h3
theorem itm_upd {l : Addr} {H H' : Hp} {o : HO} : Ex (itm H l H') (itm H l (upd H' l o)) := fun a u h => by
  obtain ⟨h1, h2, h3⟩ := itm_some h
  rw [itm_new h1 h2, upd_ne h2]
  exact h3
theorem itm_nw {p l : Addr} {H Hc H' : Hp} {o : HO} (pot : Pot H p) (d : Drew p H Hc) (hl : Hc l = some o) : Ex (nw Hc H') (itm H l H') := fun a u h => by
  obtain ⟨h1, h2⟩ := nw_some h
  rw [itm_new (fresh_drew d pot h1) (fun e => by rw [e, hl] at h1; cases h1)]
  exact h2
theorem nw_itm {l : Addr} {H H' : Hp} : Ex (itm H l H') (nw H H') := fun a u h => by
  obtain ⟨h1, h2, h3⟩ := itm_some h
  rw [nw_new h1]
  exact h3
/-- between two ifs -/
def Chg (p t l : Addr) (wd at_ : Int) (n0 : Nat) (H : Hp) (j : Int) (σ : L2.St) (H' : Hp) : Prop :=
  σ = [some (.ref p), some (.ref t), some (.int wd), some (.ref l), some (.int at_)] ∧ ∃ ys ds, H' l = some (.lst ys) ∧ DtAll (itm H l H') ys ds ∧ ds.all gs = true ∧ ys.length ≤ 5 ∧ (j ≤ wd → ys.length = n0) ∧ Drew p H H'
theorem Chg.ex {p t l : Addr} {wd at_ : Int} {n0 : Nat} {H : Hp} {j j' : Int} {σ : L2.St} {H1 H2 : Hp} (h : Chg p t l wd at_ n0 H j σ H1) (e : Ex H1 H2) (hj : j ≤ j') : Chg p t l wd at_ n0 H j' σ H2 := by
  obtain ⟨rfl, ys, ds, h1, h2, h3, h4, h5, h6⟩ := h
  exact ⟨rfl, ys, ds, e _ _ h1, h2.ex (itm_ex e), h3, h4, fun z => h5 (Int.le_trans hj z), h6.trans (Drew.of h6.pot e)⟩
theorem all_set {ds : List PyData} {d : PyData} (h : ds.all gs = true) (hd : gs d = true) (i : Nat) : (ds.set i d).all gs = true := by
  refine List.all_eq_true.mpr fun x hx => ?_
  rcases List.mem_or_eq_of_mem_set hx with z | z
  · exact List.all_eq_true.mp h x z
  · rw [z]; exact hd
theorem DtAll.eraseIdx {H : Hp} : ∀ {vs : List V} {ds : List PyData} (n : Nat), DtAll H vs ds → DtAll H (vs.eraseIdx n) (ds.eraseIdx n)
  | _, _, _, .nil => .nil
  | _, _, 0, .cons _ t => t
  | _, _, n + 1, .cons h t => .cons h (DtAll.eraseIdx n t)
section
variable {P : Program} {w : World} {K : PySem.W.Frag} {mg : Str → Option Value} {base : Heap}
theorem ok_changed {f : Addr} {fd : FuncData} {k : Nat} (F : Fun K "_law_changed" "_law_changed" sChanged f fd) (B : Blt mg) (D : Has P w K mg base k "_law_draw" ["_law_pot_here", "_law_most"] spDraw)
    (C : Has P w K mg base k "_law_choice" ["_law_pot_here", "_law_options"] spChoice) (O : Has P w K mg base k "_law_odd" ["_law_pot_here"] spOdd) :
    FnG P w K mg base CX0 (k + 1) f fd ["_law_pot_here", "_law_step_here"] spChanged := by
  obtain ⟨fD, fdD, GD, bD, kD, gD⟩ := D.ex
  obtain ⟨fC, fdC, GC, bC, kC, gC⟩ := C.ex
  obtain ⟨fO, fdO, GO, bO, kO, gO⟩ := O.ex
  refine okG F scChanged (fun vs H Q E h => by obtain ⟨_, _, _, rfl, _⟩ := h; rfl) (fun cdv A outer s H vs Q E hq hr h => ?_)
  obtain ⟨p, t, xs, rfl, pot, ht, so, q⟩ := h
  refine ⟨_, pss_cons (ps_par rfl scChanged.nd (i := 2) (j := 3) rfl rfl (by decide) rfl rfl (pa_cons (callG GD hq hr (by rfl) gD kD bD .nil pass0 (pa_cons (pv 0) (pa_cons pe_int pa_nil))) (pa_cons (pe_callTy call_list_of (by rfl) B.list bList (pa_cons (pv 1) pa_nil)) pa_nil)) (by rfl))
    (pss_cons (ps_set (i := 4) scChanged.nd rfl (.inl rfl) (callG GD hq hr (by rfl) gD kD bD .nil pass0 (pa_cons (pv 0) (pa_cons (pe_callB call_len_seq (by rfl) B.len bLen (pa_cons (pv 3) pa_nil)) pa_nil))))
    (pss_cut (ps_if (pt_cmpR op_lt (pv 2) pe_int (nomark _)) (pss_one (ps_asg (callG GO hq hr (by rfl) gO kO bO .nil pass0 (pa_cons (pv 0) pa_nil)) (pg_sub (pv 3) (pv 4) set_list))) pss_nil)
    (pss_cut (ps_if (pt_cmpR op_eq (pv 2) pe_int (nomark _)) (pss_one (ps_expr (pe_bm PySem.F.plainAttrs_list PySem.F.slot_list_insert PySem.F.type_list_insert mt_insert (pv 3) (pa_cons (pv 4) (pa_cons (callG GO hq hr (by rfl) gO kO bO .nil pass0 (pa_cons (pv 0) pa_nil)) pa_nil))))) pss_nil)
    (pss_cut (ps_if (pt_cmpR op_eq (pv 2) pe_int (nomark _)) (pss_one (ps_expr (pe_bm PySem.F.plainAttrs_list PySem.F.slot_list_pop PySem.F.type_list_pop mt_popAt (pv 3) (pa_cons (pv 4) pa_nil)))) pss_nil)
    (pss_cut (ps_if (pt_cmpR op_eq (pv 2) pe_int (nomark _)) (pss_one (ps_asg (callG GC hq hr (by rfl) gC kC bC .nil pass0 (pa_cons (pv 0) (pa_cons (pe_lst (pa_cons pe_str (pa_cons pe_str (pa_cons pe_str (pa_cons pe_str (pa_cons pe_str (pa_cons pe_str (pa_cons pe_str (pa_cons pe_str pa_nil))))))))) pa_nil))) (pg_sub (pv 3) pe_int set_list))) pss_nil)
    (pss_one (ps_ret (pe_ifExp (pt_cmpR op_eq (pv 2) pe_int (nomark _)) (pv 3) (pe_callTy call_tuple_of (by rfl) B.tuple bTuple (pa_cons (pv 3) pa_nil)))))))))), ?_⟩
  have tn : t ≠ p := fun e => by
    obtain ⟨x, y, z, _⟩ := pot
    rw [← e, ht] at z
    cases z
  have n1 := so.one
  have n4 := so.four
  refine ⟨.ref p, rfl, p, 6, rfl, by decide, by decide +kernel, pot, fun wd H1 w0 w6 r1 => ?_⟩
  refine ⟨.ref t, rfl, t, xs, rfl, .inr (st_of (r1.at tn ht)), fun l hl => ?_⟩
  refine ⟨_, _, rfl, ?_⟩
  have Hl : H l = none := fresh_drew r1 pot hl
  have ln : l ≠ p := pot_none pot Hl
  have r2 := r1.trans (Drew.of r1.pot (Ex.new (o := .lst xs) hl))
  refine ⟨.ref p, rfl, .ref l, rfl, l, xs, rfl, .inl (sq_of upd_same), p, (xs.length : Int), rfl, by omega, ?_, r2.pot, fun at_ H2 a0 a1 r3 => ?_⟩
  · rw [Int.natAbs_natCast]
    have := (Nat.log2_lt (k := 10) (by omega)).mpr (show xs.length < 2 ^ 10 by omega)
    omega
  have r4 := r2.trans r3
  have start0 : Chg p t l wd at_ xs.length H 0 [some (.ref p), some (.ref t), some (.int wd), some (.ref l), some (.int at_)] H2 :=
    ⟨rfl, xs, xs.map flD, r3.at ln upd_same, dtAll_flat so.flat, gs_leaves so.leaf, by omega, fun _ => rfl, r4⟩
  obtain ⟨j, rfl⟩ := Int.eq_ofNat_of_zero_le a0
  have hj : j < xs.length := by omega
  have dec : ∀ {m : Int}, decide (V.int wd = V.int m) = true → wd = m := fun h => V.int.inj (of_decide_eq_true h)
  have dno : ∀ {m : Int}, decide (V.int wd = V.int m) = false → wd ≠ m := fun h e => of_decide_eq_false h (by rw [e])
  -- found[at] = odd
  refine q_cut (M := Chg p t l wd j xs.length H 2) ?_ ?_
  · refine s_when (et_test (ev_op (ev_var rfl) ev_c rv_I0)) (fun hb H3 e3 => ?_) (fun hb H3 e3 => start0.ex e3 (by decide))
    have hlt : wd < 2 := of_decide_eq_true hb
    obtain ⟨_, ys, ds, h1, h2, h3, h4, h5, h6⟩ := start0.ex e3 (Int.le_refl 0)
    have ly := h5 w0
    refine ⟨.ref p, rfl, p, rfl, h6.pot, fun v d H4 dv gv r5 => ?_⟩
    refine ⟨.ref l, rfl, .int j, rfl, l, ys, (j : Int), j, rfl, rfl, r5.at ln h1, ixN_nat (by omega), rfl, ys.set j v, ds.set j d, upd_same, ?_, all_set h3 gv j, by rw [List.length_set]; exact h4, fun z => absurd z (by omega), (h6.trans r5).mut Hl ln⟩
    exact DtAll.ex itm_upd (DtAll.set (Dt.ex (itm_nw pot h6 h1) dv) j (h2.ex (itm_mono pot r5)))
  -- found.insert(at, odd)
  intro σ H3 c2
  refine q_cut (M := Chg p t l wd j xs.length H 3) ?_ ?_
  · obtain ⟨rfl, _⟩ := id c2
    refine s_when (et_test (ev_op (ev_var rfl) ev_c (rv_eq rfl))) (fun hb H4 e4 => ?_) (fun hb H4 e4 => c2.ex e4 (by decide))
    have hw := dec hb
    obtain ⟨_, ys, ds, h1, h2, h3, h4, h5, h6⟩ := c2.ex e4 (Int.le_refl 2)
    have ly := h5 (by omega)
    refine ⟨.ref l, rfl, .inl ⟨rfl, ys, sq_of h1⟩, .int j, rfl, .ref p, rfl, p, rfl, h6.pot, fun v d H5 dv gv r5 => ?_⟩
    refine ⟨l, ys, (j : Int), v, rfl, rfl, r5.at ln h1, sz_lt (by omega), by omega, by omega, rfl, ys.take j ++ [v] ++ ys.drop j, ds.take j ++ [d] ++ ds.drop j, ?_, ?_, ?_, ?_, fun z => absurd z (by omega), (h6.trans r5).mut Hl ln⟩
    · rw [upd_same, Int.toNat_natCast]
    · have z := h2.ex (itm_mono pot r5)
      exact DtAll.ex itm_upd (((z.take j).append (.cons (Dt.ex (itm_nw pot h6 h1) dv) .nil)).append (z.drop j))
    · refine List.all_eq_true.mpr fun x hx => ?_
      rcases List.mem_append.mp hx with z | z
      · rcases List.mem_append.mp z with z | z
        · exact List.all_eq_true.mp h3 x (List.mem_of_mem_take z)
        · rw [List.mem_singleton.mp z]; exact gv
      · exact List.all_eq_true.mp h3 x (List.mem_of_mem_drop z)
    · rw [List.length_append, List.length_append, List.length_take, List.length_drop, List.length_singleton]
      omega
  -- found.pop(at)
  intro σ H4 c3
  refine q_cut (M := Chg p t l wd j xs.length H 4) ?_ ?_
  · obtain ⟨rfl, _⟩ := id c3
    refine s_when (et_test (ev_op (ev_var rfl) ev_c (rv_eq rfl))) (fun hb H5 e5 => ?_) (fun hb H5 e5 => c3.ex e5 (by decide))
    have hw := dec hb
    obtain ⟨_, ys, ds, h1, h2, h3, h4, h5, h6⟩ := c3.ex e5 (Int.le_refl 3)
    have ly := h5 (by omega)
    have hy : j < ys.length := by omega
    refine ⟨.ref l, rfl, .inl ⟨rfl, ys, sq_of h1⟩, .int j, rfl, l, ys, (j : Int), j, ys[j], rfl, rfl, h1, by omega, by omega, ?_, List.getElem?_eq_getElem hy, rfl, ys.eraseIdx j, ds.eraseIdx j, upd_same, DtAll.ex itm_upd (h2.eraseIdx j), ?_, ?_, fun z => absurd z (by omega), h6.mut Hl ln⟩
    · unfold seqIndex?
      simp
      omega
    · exact List.all_eq_true.mpr fun x hx => List.all_eq_true.mp h3 x (List.mem_of_mem_eraseIdx hx)
    · have := List.length_eraseIdx_le ys j
      omega
  -- found[0] = choice
  intro σ H5 c4
  refine q_cut (M := Chg p t l wd j xs.length H 5) ?_ ?_
  · obtain ⟨rfl, _⟩ := id c4
    refine s_when (et_test (ev_op (ev_var rfl) ev_c (rv_eq rfl))) (fun hb H6 e6 => ?_) (fun hb H6 e6 => c4.ex e6 (by decide))
    have hw := dec hb
    obtain ⟨_, ys, ds, h1, h2, h3, h4, h5, h6⟩ := c4.ex e6 (Int.le_refl 4)
    have ly := h5 (by omega)
    refine ⟨.ref p, rfl, by show 8 ≤ sizeLine; decide, fun o ho => ?_⟩
    have eo := Ex.new (o := .lst ((["set", "add", "skip", "export", "read", "need", "try", "fail"] : List Str).map V.str)) ho
    have h7 := h6.trans (Drew.of h6.pot eo)
    refine ⟨p, h7.pot, .inl ⟨o, ((["set", "add", "skip", "export", "read", "need", "try", "fail"] : List Str).map V.str), rfl, h6.neq ho, upd_same, Nat.succ_pos _, by show 8 ≤ 1000; decide, fun v H7 hv r8 => ?_⟩⟩
    obtain ⟨z, hz, rfl⟩ := List.mem_map.mp hv
    refine ⟨.ref l, rfl, l, ys, 0, 0, rfl, rfl, r8.at ln (eo _ _ h1), ixN_nat (j := 0) (by omega), rfl, ys.set 0 (.str z), ds.set 0 (.str z), upd_same, ?_, all_set h3 (gs_leaf (v := .str z) (kinds_leaf z hz)) 0, by rw [List.length_set]; exact h4, fun z => absurd z (by omega), (h7.trans r8).mut Hl ln⟩
    exact DtAll.ex itm_upd (DtAll.set (.str z) 0 ((h2.ex (itm_ex eo)).ex (itm_mono pot r8)))
  -- the end
  rintro σ H6 ⟨rfl, ys, ds, h1, h2, h3, h4, h5, h6⟩
  have ld := h2.length
  refine ⟨.int wd, rfl, rfl, _, rfl, ?_⟩
  refine ite2 (fun hb => ?_) (fun hb => ?_)
  · refine ⟨.ref l, rfl, q _ (.list ds) H6 (.lst (by rw [nw_new Hl]; exact h1) (h2.ex nw_itm)) (gd_list h3 (by omega)) h6⟩
  · refine ⟨.ref l, rfl, l, ys, rfl, .inl ⟨sq_of h1, fun t2 z2 => ?_⟩⟩
    have H2n : H t2 = none := fresh_drew h6 pot z2
    refine q _ (.tuple ds) _ (.tup (by rw [nw_new H2n]; exact upd_same) ((h2.ex (itm_ex (Ex.new z2))).ex nw_itm)) (gd_tuple h3 (by omega)) (h6.trans (Drew.of h6.pot (Ex.new z2)))
end
end Cr
namespace Cr
open PySem PySem.Spec PyProof.Rows L2 Evl
abbrev sJudged : Stmt := topS 27
abbrev sRight : Stmt := topS 28
abbrev nJudged : List Str := ["_law_value", "_law_kept", "_law_due", "_law_told", "_law_whole", "_law_wanted"]
abbrev nRight : List Str := ["_law_pot_here", "_law_modules", "_law_names_here", "_law_turn", "_law_step_here", "_law_some", "_law_value"]
theorem scJudged : FnScope nJudged ["_law_value"] (defScope sJudged) := ⟨rfl, rfl, rfl, by decide +kernel, rfl, by decide +kernel, by decide +kernel⟩
theorem scRight : FnScope nRight ["_law_pot_here"] (defScope sRight) := ⟨rfl, rfl, rfl, by decide +kernel, rfl, by decide +kernel, by decide +kernel⟩
/-- it is judged right -/
def spJ : Sp := fun vs H Q _ => ∃ v d, vs = [v] ∧ Dt H v d ∧ gd d = true ∧ ∀ H', Ex H H' → Q (.bl true) H'
theorem spv_J {H : Hp} {v : V} {d : PyData} (h : Dt H v d) (s : gd d = true) : SpV spJ [v] H (.bl true) := fun H1 e Q q E => ⟨v, d, rfl, Dt.ex e h, s, q⟩
theorem dt_bools {H : Hp} : ∀ bs : List Bool, DtAll H (bs.map V.bl) (bs.map PyData.bool)
  | [] => .nil
  | b :: r => .cons (.bl b) (dt_bools r)
theorem gs_bools : ∀ bs : List Bool, (bs.map PyData.bool).all gs = true
  | [] => rfl
  | b :: r => by
    rw [List.map_cons, List.all_cons, gs_bools r, show gs (.bool b) = true from gs_leaf (v := .bl b) rfl]
    rfl
section
variable {P : Program} {w : World} {K : PySem.W.Frag} {mg : Str → Option Value} {base : Heap}
theorem ok_judged {f : Addr} {fd : FuncData} {k : Nat} (F : Fun K "_law_judged" "_law_judged" sJudged f fd) (B : Blt mg)
    (h1 : Has P w K mg base k "_law_is_right_step" ["_law_value"] (spD isStep)) (h2 : Has P w K mg base k "is_name" ["value"] (spD isName)) (h3 : Has P w K mg base k "is_integer" ["value"] (spD isInteger)) (h4 : Has P w K mg base k "is_count" ["value"] (spD isCount))
    (h5 : Has P w K mg base k "is_step" ["value"] (spD isStep)) (h6 : Has P w K mg base k "is_plain" ["step"] (spD isPlain)) (h7 : Has P w K mg base k "_law_is_whole" ["_law_value"] (spD isInteger)) (h8 : Has P w K mg base k "_law_is_word" ["_law_value"] (spD isName)) :
    FnG P w K mg base CX0 (k + 1) f fd ["_law_value"] spJ := by
  obtain ⟨f1, d1, G1, b1, k1, g1⟩ := h1.ex
  obtain ⟨f2, d2, G2, b2, k2, g2⟩ := h2.ex
  obtain ⟨f3, d3, G3, b3, k3, g3⟩ := h3.ex
  obtain ⟨f4, d4, G4, b4, k4, g4⟩ := h4.ex
  obtain ⟨f5, d5, G5, b5, k5, g5⟩ := h5.ex
  obtain ⟨f6, d6, G6, b6, k6, g6⟩ := h6.ex
  obtain ⟨f7, d7, G7, b7, k7, g7⟩ := h7.ex
  obtain ⟨f8, d8, G8, b8, k8, g8⟩ := h8.ex
  refine okG F scJudged (fun vs H Q E h => by obtain ⟨_, _, rfl, _⟩ := h; rfl) (fun cdv A outer s H vs Q E hq hr h => ?_)
  obtain ⟨v, d, rfl, hd, hg, q⟩ := h
  refine ⟨_, pss_cons (ps_set (i := 1) scJudged.nd rfl (.inl rfl) (pe_callB (call_reprG hq hr.units) (by rfl) B.repr bRepr (pa_cons (pv 0) pa_nil)))
    (pss_cons (ps_set (i := 2) scJudged.nd rfl (.inl rfl) (callG G1 hq hr (by rfl) g1 k1 b1 .nil pass0 (pa_cons (pv 0) pa_nil)))
    (pss_cons (ps_set (i := 3) scJudged.nd rfl (.inl rfl) (pe_lst (pa_cons (callG G2 hq hr (by rfl) g2 k2 b2 .nil pass0 (pa_cons (pv 0) pa_nil)) (pa_cons (callG G3 hq hr (by rfl) g3 k3 b3 .nil pass0 (pa_cons (pv 0) pa_nil)) (pa_cons (callG G4 hq hr (by rfl) g4 k4 b4 .nil pass0 (pa_cons (pv 0) pa_nil))
      (pa_cons (callG G5 hq hr (by rfl) g5 k5 b5 .nil pass0 (pa_cons (pv 0) pa_nil)) (pa_cons (callG G6 hq hr (by rfl) g6 k6 b6 .nil pass0 (pa_cons (pv 0) pa_nil)) pa_nil)))))))
    (pss_cons (ps_set (i := 4) scJudged.nd rfl (.inl rfl) (callG G7 hq hr (by rfl) g7 k7 b7 .nil pass0 (pa_cons (pv 0) pa_nil)))
    (pss_cons (ps_set (i := 5) scJudged.nd rfl (.inl rfl) (pe_lst (pa_cons (callG G8 hq hr (by rfl) g8 k8 b8 .nil pass0 (pa_cons (pv 0) pa_nil)) (pa_cons (pv 4) (pa_cons (pe_and (pv 4) (pe_one (pe_cmpR op_ge (pv 0) pe_int (nomark _)))) (pa_cons (pv 2)
      (pa_cons (pe_and (pv 2) (pe_one (pe_cmpR op_in_seq (pe_ix ix_tup (pv 0) pe_int (fun _ _ => rfl)) (pe_tup (pa_cons pe_str (pa_cons pe_str (pa_cons pe_str pa_nil)))) (by rfl)))) pa_nil)))))))
    (pss_one (ps_ret (pe_and (pe_cmpR op_eq (pe_callB (call_reprG hq hr.units) (by rfl) B.repr bRepr (pa_cons (pv 3) pa_nil)) (pe_callB (call_reprG hq hr.units) (by rfl) B.repr bRepr (pa_cons (pv 5) pa_nil)) (nomark _))
      (pe_one (pe_cmpR op_eq (pe_callB (call_reprG hq hr.units) (by rfl) B.repr bRepr (pa_cons (pv 0) pa_nil)) (pv 1) (nomark _)))))))))), ?_⟩
  have hs := (gB_iff.mp hg).1
  have ft := gd_fits hg
  refine q_asg (ev_cb (ea_cons (ev_var rfl) ea_nil) (rc_repr hd ft)) fun H1 e1 => ?_
  refine q_asg (ev_call (ea_cons (ev_var rfl) ea_nil) (spv_D (Dt.ex e1 hd) hs)) fun H2 e2 => ?_
  have e12 := e1.trans e2
  have cl : ∀ {g : PyData → Bool} {σ : L2.St} {H' : Hp}, σ[0]? = some (some v) → Ex H H' → Ev (tCall (spD g) [] E0 (tCons (tVar 0) tNil)) σ H' (.bl (g d)) := fun h e => ev_call (ea_cons (ev_var h) ea_nil) (spv_D (Dt.ex e hd) hs)
  refine q_asgL (xs := [isName d, isInteger d, isCount d, isStep d, isPlain d].map V.bl) (el_lst (ea_cons (cl rfl e12) (ea_cons (cl rfl e12) (ea_cons (cl rfl e12) (ea_cons (cl rfl e12) (ea_cons (cl rfl e12) ea_nil))))) (by show 5 ≤ 100000; decide)) fun T H3 hT e3 h3 => ?_
  have e13 := e12.trans e3
  refine q_asg (cl rfl e13) fun H4 e4 => ?_
  have e14 := e13.trans e4
  have hd4 := Dt.ex e14 hd
  refine q_asgL (xs := [isName d, isInteger d, isCount d, isStep d, isPlain d].map V.bl) (el_lst (ea_cons (cl rfl e14) (ea_cons (ev_var rfl) (ea_cons (ev_andV (b := atLeast 0 d) (ev_var rfl) fun hi => ?_) (ea_cons (ev_var rfl) (ea_cons (ev_is (ev_andV (b := isPlain d) (ev_var rfl) fun hi => ?_) ?_) ea_nil))))) (by show 5 ≤ 100000; decide)) fun W H5 hW e5 h5 => ?_
  · cases hd4 with
    | int i => exact ev_op (ev_var rfl) ev_c rv_I0
    | _ => exact absurd hi (by first | decide | (revert hi; simp [isInteger, isT, isTs, tyT]))
  · by_cases ht : ∃ z ds, d = .tuple (.str z :: ds)
    · obtain ⟨z, ds, rfl⟩ := ht
      have ha : ∃ a, v = .ref a := by cases hd4; exact ⟨_, rfl⟩
      obtain ⟨a, rfl⟩ := ha
      obtain ⟨xs, hx, hds⟩ := dt_tup hd4
      cases hds with
      | cons h0 hr' =>
        cases h0
        refine ev_is (ev_inU (xs := plain3.map V.str) (ev_op (ev_var rfl) ev_c (rv_ixT (st_of hx) (atI_nat (j := 0) rfl))) (eu_tup (ea_cons ev_c (ea_cons ev_c (ea_cons ev_c ea_nil))) (by show 3 ≤ 100000; decide)) rfl (flat_strs _)) ?_
        rw [inV_strs]
        have hi' : isStep (.tuple (.str z :: ds)) = true := hi
        show V.bl (plain3.any fun y => y == z) = V.bl (isStep (.tuple (.str z :: ds)) && (plain3.any fun y => y == z))
        rw [hi', Bool.true_and]
    · refine absurd (show isStep d = true from hi) ?_
      cases d with
      | tuple ds =>
        cases ds with
        | nil => exact fun z => nomatch z
        | cons d0 ds =>
          cases d0 with
          | str z => exact absurd ⟨z, ds, rfl⟩ ht
          | _ => exact fun z => nomatch z
      | _ => exact fun z => nomatch z
  · show V.bl (isStep d && isPlain d) = V.bl (isPlain d)
    unfold isPlain
    cases isStep d <;> rfl
  have e15 := e14.trans e5
  have fl : Fits (.list ([isName d, isInteger d, isCount d, isStep d, isPlain d].map PyData.bool)) := gd_fits (gd_list (gs_bools _) (by show 5 ≤ 6; decide))
  refine s_ret (ev_andV (ev_op (ev_cb (ea_cons (ev_var rfl) ea_nil) (rc_repr (.lst (e5 _ _ (e4 _ _ h3)) (dt_bools _)) fl)) (ev_cb (ea_cons (ev_var rfl) ea_nil) (rc_repr (.lst h5 (dt_bools _)) fl)) (rv_eq rfl)) fun _ => ev_op (ev_cb (ea_cons (ev_var rfl) ea_nil) (rc_repr (Dt.ex e15 hd) ft)) (ev_var rfl) (rv_eq rfl)) fun H6 e6 => ?_
  rw [decide_eq_true rfl, decide_eq_true rfl]
  exact q H6 (e15.trans e6)

def spRight : Sp := fun vs H Q _ => ∃ p : Addr, vs = [.ref p] ∧ Pot H p ∧ ∀ H', Drew p H H' → Q (.bl true) H'
theorem ok_right {f aV : Addr} {fd : FuncData} {k : Nat} (F : Fun K "_law_right" "_law_right" sRight f fd) (B : Blt mg) (gV : mg "VARIABLES" = some (.ref aV)) (tV : KTup K aV (vars4.map V.str))
    (h1 : Has P w K mg base k "_law_names" ["_law_pot_here", "_law_number"] spNames) (h2 : Has P w K mg base k "_law_step" ["_law_pot_here", "_law_modules", "_law_names_here", "_law_after"] spStep) (h3 : Has P w K mg base k "_law_draw" ["_law_pot_here", "_law_most"] spDraw)
    (h4 : Has P w K mg base k "is_step" ["value"] (spD isStep)) (h5 : Has P w K mg base k "_law_judged" ["_law_value"] spJ) (h6 : Has P w K mg base k "_law_changed" ["_law_pot_here", "_law_step_here"] spChanged)
    (h7 : Has P w K mg base k "_law_odd" ["_law_pot_here"] spOdd) (h8 : Has P w K mg base k "_law_integer" ["_law_pot_here"] spInteger) (h9 : Has P w K mg base k "_law_choice" ["_law_pot_here", "_law_options"] spChoice) :
    FnG P w K mg base CX0 (k + 1) f fd ["_law_pot_here"] spRight := by
  obtain ⟨f1, d1, G1, b1, k1, g1⟩ := h1.ex
  obtain ⟨f2, d2, G2, b2, k2, g2⟩ := h2.ex
  obtain ⟨f3, d3, G3, b3, k3, g3⟩ := h3.ex
  obtain ⟨f4, d4, G4, b4, k4, g4⟩ := h4.ex
  obtain ⟨f5, d5, G5, b5, k5, g5⟩ := h5.ex
  obtain ⟨f6, d6, G6, b6, k6, g6⟩ := h6.ex
  obtain ⟨f7, d7, G7, b7, k7, g7⟩ := h7.ex
  obtain ⟨f8, d8, G8, b8, k8, g8⟩ := h8.ex
  obtain ⟨f9, d9, G9, b9, k9, g9⟩ := h9.ex
  refine okG F scRight (fun vs H Q E h => by obtain ⟨_, rfl, _⟩ := h; rfl) (fun cdv A outer s H vs Q E hq hr h => ?_)
  obtain ⟨p, rfl, pot, q⟩ := h
  refine ⟨_, pss_cons (ps_par rfl scRight.nd (i := 1) (j := 2) rfl rfl (by decide) rfl rfl (pa_cons (callG G1 hq hr (by rfl) g1 k1 b1 .nil pass0 (pa_cons (pv 0) (pa_cons pe_int pa_nil))) (pa_cons (callG G1 hq hr (by rfl) g1 k1 b1 .nil pass0 (pa_cons (pv 0) (pa_cons pe_int pa_nil))) pa_nil)) (by rfl))
    (pss_cons (ps_for PassesOwn.never rfl (pi_range1 (by rfl) B.range (pa_cons pe_int pa_nil)) (pg_name (i := 3) scRight.nd rfl (.inl rfl))
      (pss_cons (ps_set (i := 4) scRight.nd rfl (.inl rfl) (callG G2 hq hr (by rfl) g2 k2 b2 .nil pass0 (pa_cons (pv 0) (pa_cons (pv 1) (pa_cons (pv 2) (pa_cons (pe_op op_add pe_int (callG G3 hq hr (by rfl) g3 k3 b3 .nil pass0 (pa_cons (pv 0) (pa_cons pe_int pa_nil)))) pa_nil))))))
      (pss_cons (ps_if (PW.pt (pw_or (pt_cmpR op_notBl (callG G4 hq hr (by rfl) g4 k4 b4 .nil pass0 (pa_cons (pv 4) pa_nil)) pe_bl (nomark _)) (pw_or1 (pt_not (pt_val (callG G5 hq hr (by rfl) g5 k5 b5 .nil pass0 (pa_cons (pv 4) pa_nil))))))) (pss_one (ps_ret pe_bl)) pss_nil)
      (pss_cons (ps_if (PW.pt (pw_or (pt_not (pt_val (callG G5 hq hr (by rfl) g5 k5 b5 .nil pass0 (pa_cons (callG G6 hq hr (by rfl) g6 k6 b6 .nil pass0 (pa_cons (pv 0) (pa_cons (pv 4) pa_nil))) pa_nil))))
          (pw_or1 (pt_not (pt_val (callG G5 hq hr (by rfl) g5 k5 b5 .nil pass0 (pa_cons (callG G6 hq hr (by rfl) g6 k6 b6 .nil pass0 (pa_cons (pv 0) (pa_cons (pv 4) pa_nil))) pa_nil))))))) (pss_one (ps_ret pe_bl)) pss_nil)
      (pss_cons (ps_set (i := 5) scRight.nd rfl (.inl rfl) (pe_lst (pa_cons (callG G7 hq hr (by rfl) g7 k7 b7 .nil pass0 (pa_cons (pv 0) pa_nil)) (pa_cons (callG G8 hq hr (by rfl) g8 k8 b8 .nil pass0 (pa_cons (pv 0) pa_nil)) (pa_cons (callG G9 hq hr (by rfl) g9 k9 b9 .nil pass0 (pa_cons (pv 0) (pa_cons (pv 2) pa_nil))) pa_nil)))))
      (pss_one (ps_if (pt_not (pt_val (pe_callB (cr_all rfl) (by rfl) B.all bAll (pa_cons (pe_lc (own := [("_law_value", 6)]) (g := gName 6) (tt := tYes) rfl scRight.nd (pi_list (pv 5)) (blkOk_by (own := [("_law_value", 6)]) (N := nRight) (sc := defScope sRight) (by decide +kernel))
          (fun _ _ _ _ _ => pg_name (i := 6) scRight.nd rfl (Or.inl rfl)) (fun _ _ _ _ _ => pts_nil) (fun _ _ _ _ _ => callG G5 hq hr (by rfl) g5 k5 b5 .nil pass0 (pa_cons (pv 6) pa_nil))) pa_nil)))) (pss_one (ps_ret pe_bl)) pss_nil)))))))
    (pss_one (ps_ret (pe_cmpR (op_eqD hr.units) (pe_glob (v := .ref aV) (by rfl) gV rfl) (pe_tup (pa_cons pe_str (pa_cons pe_str (pa_cons pe_str (pa_cons pe_str pa_nil))))) (nomark _))))), ?_⟩
  refine ⟨.ref p, rfl, p, 3, rfl, pot, by decide, fun m ms H1 zm hm lm nms r1 => ?_⟩
  refine ⟨.ref p, rfl, p, 3, rfl, r1.pot, by decide, fun n ns H2 zn hn ln nns r2 => ?_⟩
  refine ⟨_, _, rfl, ?_⟩
  have r12 := r1.trans r2
  have mp : m ≠ p := pot_none pot zm
  have np : n ≠ p := pot_none pot (fresh_drew r1 pot zn)
  have hm2 := r2.at mp hm
  refine ⟨8, rfl, by decide, by decide, for_range (lo := 0) (n := 8) (fun i σ H' => ∃ y3 y4 y5 y6, σ = [some (.ref p), some (.ref m), some (.ref n), y3, y4, y5, y6] ∧ Drew p H2 H') ⟨none, none, none, none, rfl, Drew.refl r2.pot⟩ (fun i σ H3 hi hP => ?_) (fun σ H3 hP => ?_)⟩
  · obtain ⟨y3, y4, y5, y6, rfl, dr⟩ := hP
    -- a step
    refine ⟨.ref p, rfl, .ref m, rfl, .ref n, rfl, .ref p, rfl, p, 5, rfl, by decide, by decide +kernel, dr.pot, fun a H4 a0 a5 r4 => ?_⟩
    have dr4 := dr.trans r4
    obtain ⟨a', rfl⟩ := Int.eq_ofNat_of_zero_le a0
    refine ⟨1, (a' : Int), rfl, rfl, p, m, n, ms, ns, 1 + a', by rw [Int.natCast_add]; rfl, dr4.pot, mp, np, dr4.at mp hm2, dr4.at np hn, ⟨by omega, by omega, by omega, by omega, nms, nns, by omega⟩, fun t xs H5 zt ht so r5 => ?_⟩
    have dr5 := dr4.trans r5
    have tp : t ≠ p := pot_none dr4.pot zt
    have hdt : ∀ {H' : Hp}, H' t = some (.tup xs) → Dt H' (.ref t) (.tuple (xs.map flD)) := fun h => .tup h (dtAll_flat so.flat)
    have l4 := so.four
    have gdt : gd (.tuple (xs.map flD)) = true := gd_tuple (gs_leaves so.leaf) (by rw [List.length_map]; omega)
    -- judged
    refine q_when (b := false) (et_is (et_or (b := false) (et_test (ev_op (ev_call (ea_cons (ev_var rfl) ea_nil) (spv_D (hdt ht) (gB_iff.mp gdt).1)) ev_c (rv_val fun H6 _ Q q => ⟨_, _, rfl, rfl, q⟩))) fun _ => et_not (et_B (ev_call (ea_cons (ev_var rfl) ea_nil) (spv_J (hdt ht) gdt)))) (by rw [so.step]; rfl)) (fun z => absurd z (by decide)) (fun _ H6 e6 => ?_)
    have dr6 := dr5.trans (Drew.of dr5.pot e6)
    have ht6 := e6 _ _ ht
    -- two changed ones
    refine ⟨.ref p, rfl, .ref t, rfl, p, t, xs, rfl, dr6.pot, ht6, so, fun v d H7 dv gv r7 => ?_⟩
    refine ⟨v, d, rfl, Dt.ex (nw_ex _ _) dv, gv, fun H8 e8 => ⟨true, rfl, ?_⟩⟩
    have dr8 := (dr6.trans r7).trans (Drew.of (dr6.trans r7).pot e8)
    refine iteF ?_
    refine ⟨.ref p, rfl, .ref t, rfl, p, t, xs, rfl, dr8.pot, e8 _ _ (r7.at tp ht6), so, fun v' d' H9 dv' gv' r9 => ?_⟩
    refine ⟨v', d', rfl, Dt.ex (nw_ex _ _) dv', gv', fun H10 e10 => ⟨true, rfl, ?_⟩⟩
    have dr10 := (dr8.trans r9).trans (Drew.of (dr8.trans r9).pot e10)
    refine iteF ?_
    -- some others
    refine ⟨.ref p, rfl, p, rfl, dr10.pot, fun vo dO H11 dvo gvo r11 => ?_⟩
    have dr11 := dr10.trans r11
    refine ⟨.ref p, rfl, p, rfl, dr11.pot, fun vi H12 hvi r12 => ?_⟩
    have dr12 := dr11.trans r12
    refine ⟨.ref p, rfl, .ref n, rfl, p, dr12.pot, .inl ⟨n, ns.map V.str, rfl, np, dr12.at np hn, by rw [List.length_map]; omega, by rw [List.length_map]; omega, fun vn H13 hvn r13 => ?_⟩⟩
    have dr13 := dr12.trans r13
    obtain ⟨nm, hnm, rfl⟩ := List.mem_map.mp hvn
    refine ⟨by show 3 ≤ sizeLine; decide, fun L zL => ?_⟩
    have eL := Ex.new (o := .lst [vo, .int vi, .str nm]) zL
    have dr14 := dr13.trans (Drew.of dr13.pot eL)
    have dvo2 : Dt (upd H13 L (.lst [vo, .int vi, .str nm])) vo dO := Dt.ex eL (Dt.ex (nw_ex _ _) (Dt.ex (nw_mono dr10.pot (r12.trans r13)) dvo))
    have hL : (upd H13 L (.lst [vo, .int vi, .str nm])) L = some (.lst [vo, .int vi, .str nm]) := upd_same
    have lc := el_lcW (wi := iList K (tVar 5)) (g := gName 6) (tt := tYes) (te := tCall spJ [] E0 (tCons (tVar 6) tNil)) (vs := [6])
      (σ := [some (.ref p), some (.ref m), some (.ref n), some (.int (0 + i)), some (.ref t), some (.ref L), y6]) (H := upd H13 L (.lst [vo, .int vi, .str nm])) (n := 3) (Y := YAt [vo, .int vi, .str nm]) (fun _ => true) (fun _ => .bl true) (by decide)
      (fun H15 e15 R r => ⟨.ref L, rfl, L, rfl, ⟨_, sq_of (e15 _ _ hL)⟩, r H15 _ _ (walk_list (K := K) (a := L) (xs := [vo, .int vi, .str nm])) (fun _ _ e z => ex_l e z) (Ex.refl H15) (sq_of (e15 _ _ hL))⟩)
      (fun j y H15 H16 e15 hj hy => by
        obtain ⟨rfl, hy⟩ := hy
        refine ⟨Ex.refl _, [some (.ref p), some (.ref m), some (.ref n), some (.int (0 + i)), some (.ref t), some (.ref L), some y], rfl, fun R r => r, fun H17 _ Q q => q H17 (Ex.refl H17), fun _ => ?_⟩
        have h012 : j = 0 ∨ j = 1 ∨ j = 2 := by omega
        rcases h012 with rfl | rfl | rfl
        · obtain rfl : vo = y := Option.some.inj hy
          exact ev_call (ea_cons (ev_var rfl) ea_nil) (spv_J (Dt.ex e15 dvo2) (gs_gd gvo))
        · obtain rfl : V.int vi = y := Option.some.inj hy
          exact ev_call (ea_cons (ev_var rfl) ea_nil) (spv_J (.int vi) (gs_gd (gs_leaf (v := .int vi) (decide_eq_true hvi))))
        · obtain rfl : V.str nm = y := Option.some.inj hy
          exact ev_call (ea_cons (ev_var rfl) ea_nil) (spv_J (.str nm) (gs_gd (gs_leaf (v := .str nm) (leaf_name (nns nm hnm))))))
    have eg : given 3 (fun _ => true) (fun _ => V.bl true) = [true, true, true].map V.bl := rfl
    rw [eg] at lc
    refine s_when (b := false) (et_is (et_not (et_B (ev_all lc))) rfl) (fun z => absurd z (by decide)) (fun _ H15 e15 => ?_)
    exact ⟨_, _, _, _, rfl, dr14.trans (Drew.of dr14.pot e15)⟩
  · obtain ⟨y3, y4, y5, y6, rfl, dr⟩ := hP
    refine ⟨by show 4 ≤ sizeLine; decide, fun t zt => ?_⟩
    have dall : ∀ (H' : Hp) (l : List Str), DpAll K H' (l.map V.str) (l.map PyData.str) := fun H' l => by
      induction l with
      | nil => exact .nil
      | cons x r ih => exact .cons (.str x) ih
    refine ⟨.tuple (vars4.map .str), .tuple (vars4.map .str), .tup tV.sq (dall _ vars4), .tup (st_of upd_same) (dall _ vars4), by decide +kernel, by decide +kernel, ?_⟩
    have ev : PyData.eqv (.tuple (vars4.map .str)) (.tuple (vars4.map .str)) = true := by decide +kernel
    rw [ev]
    exact q _ ((r12.trans dr).trans (Drew.of (r12.trans dr).pot (Ex.new zt)))
end
end Cr
namespace Cr
open PySem PySem.Spec PyProof.Rows L2 Evl
abbrev sTruths : Stmt := topS 29
abbrev sLaw : Stmt := topS 30
abbrev nTr : List Str := ["_law_word", "_law_number", "_law_step_here", "_law_odd_here", "_law_told"]
abbrev nLaw : List Str := ["_law_script", "_law_index"]
theorem scTruths : FnScope nTr [] (defScope sTruths) := ⟨rfl, rfl, rfl, by decide +kernel, rfl, by decide +kernel, by decide +kernel⟩
theorem scLaw : FnScope nLaw ["_law_script"] (defScope sLaw) := ⟨rfl, rfl, rfl, by decide +kernel, rfl, by decide +kernel, by decide +kernel⟩
theorem flat_rep (v : V) : ∀ k : Nat, (List.replicate k [v]).flatten = List.replicate k v
  | 0 => rfl
  | k + 1 => by rw [List.replicate_succ, List.replicate_succ, List.flatten_cons, flat_rep v k]; rfl
theorem el_rep {v : V} {k : Nat} {σ : L2.St} {H : Hp} (hk : k ≤ 100) : EvL (tOp rRep (tLst (tCons (tC v) tNil)) (tC (.int (k : Int)))) σ H (List.replicate k v) := fun H1 e Q q =>
  ⟨by show 1 ≤ sizeLine; decide, fun l hl => ⟨l, (k : Int), [v], rfl, rfl, upd_same, by omega, by omega, sz_of (by rw [Int.toNat_natCast]; show 1 * k ≤ 100000; omega), fun p hp => by
    refine q p _ (fresh_back (Ex.new hl) hp) ((Ex.new hl).trans (Ex.new hp)) ?_
    rw [upd_same, Int.toNat_natCast, flat_rep]⟩⟩
theorem dp_bools {K : PySem.W.Frag} {H : Hp} : ∀ bs : List Bool, DpAll K H (bs.map V.bl) (bs.map PyData.bool)
  | [] => .nil
  | b :: r => .cons (.bl b) (dp_bools r)
/-- the list of bools at T is not the new one of n times c, or it is -/
theorem ev_neB {K : PySem.W.Frag} {σ : L2.St} {H : Hp} {i : Nat} {T : Addr} {bs : List Bool} {c : Bool} {n : Nat} (hn : n ≤ 100) (hσ : σ[i]? = some (some (.ref T))) (hT : H T = some (.lst (bs.map V.bl)))
    (s1 : SeqAt.shaped (.list (bs.map .bool)) = true) (s2 : SeqAt.shaped (.list ((List.replicate n c).map .bool)) = true) (e : PyData.eqv (.list (bs.map .bool)) (.list ((List.replicate n c).map .bool)) = true) :
    EvT (tTest (tOp (rNeD K) (tVar i) (tOp rRep (tLst (tCons (tC (.bl c)) tNil)) (tC (.int (n : Int)))))) σ H false := by
  have z := el_rep (v := .bl c) (k := n) (σ := σ) (H := H) hn
  have er : List.replicate n (V.bl c) = (List.replicate n c).map V.bl := by rw [List.map_replicate]
  rw [er] at z
  refine et_test (ev_opL (ev_var hσ) z fun p H1 hp e1 => rv_val fun H2 e2 Q q => ⟨_, _, .lst (sq_of (e2 _ _ (e1 _ _ hT))) (dp_bools bs), .lst (sq_of (e2 _ _ hp)) (dp_bools _), s1, s2, ?_⟩)
  rw [e]
  exact q
def spTruth : Sp := fun vs H Q _ => vs = [] ∧ ∀ H', Ex H H' → Q (.bl true) H'
structure Tru (wd : Str) (n : Int) : Prop where
  a1 : isStep (.tuple [.str wd, .str "a", .int n]) = true
  a2 : isPlain (.tuple [.str wd, .str "a", .int n]) = true
  a3 : isCount (.int n) = true
  b1 : isStep (.tuple [.str wd, .str "a", .bool (decide (V.int n = V.int 1))]) = false
  b2 : isPlain (.tuple [.str wd, .str "a", .bool (decide (V.int n = V.int 1))]) = false
  b3 : isCount (.bool (decide (V.int n = V.int 1))) = false
  sm1 : sm (.tuple [.str wd, .str "a", .int n]) = true
  sm2 : sm (.tuple [.str wd, .str "a", .bool (decide (V.int n = V.int 1))]) = true
theorem tru1 : Tru "set" 1 := ⟨by decide +kernel, by decide +kernel, by decide +kernel, by decide +kernel, by decide +kernel, by decide +kernel, by decide +kernel, by decide +kernel⟩
theorem tru2 : Tru "skip" 1 := ⟨by decide +kernel, by decide +kernel, by decide +kernel, by decide +kernel, by decide +kernel, by decide +kernel, by decide +kernel, by decide +kernel⟩
theorem tru3 : Tru "set" 0 := ⟨by decide +kernel, by decide +kernel, by decide +kernel, by decide +kernel, by decide +kernel, by decide +kernel, by decide +kernel, by decide +kernel⟩
section
variable {P : Program} {w : World} {K : PySem.W.Frag} {mg : Str → Option Value} {base : Heap}
theorem ok_truths {f : Addr} {fd : FuncData} {k : Nat} (F : Fun K "_law_truths_right" "_law_truths_right" sTruths f fd)
    (h3 : Has P w K mg base k "is_integer" ["value"] (spD isInteger)) (h4 : Has P w K mg base k "is_count" ["value"] (spD isCount))
    (h5 : Has P w K mg base k "is_step" ["value"] (spD isStep)) (h6 : Has P w K mg base k "is_plain" ["step"] (spD isPlain)) :
    FnG P w K mg base CX0 (k + 1) f fd [] spTruth := by
  obtain ⟨f3, d3, G3, b3, k3, g3⟩ := h3.ex
  obtain ⟨f4, d4, G4, b4, k4, g4⟩ := h4.ex
  obtain ⟨f5, d5, G5, b5, k5, g5⟩ := h5.ex
  obtain ⟨f6, d6, G6, b6, k6, g6⟩ := h6.ex
  refine okG F scTruths (fun vs H Q E h => by obtain ⟨rfl, _⟩ := h; rfl) (fun cdv A outer s H vs Q E hq hr h => ?_)
  obtain ⟨rfl, q⟩ := h
  refine ⟨_, pss_cons (ps_for PassesOwn.never rfl (pi_list (pe_lst (pa_cons (pe_tup (pa_cons pe_str (pa_cons pe_int pa_nil))) (pa_cons (pe_tup (pa_cons pe_str (pa_cons pe_int pa_nil))) (pa_cons (pe_tup (pa_cons pe_str (pa_cons pe_int pa_nil))) pa_nil)))))
      (pg_tup rfl (pgs_cons (pg_name (i := 0) scTruths.nd rfl (.inl rfl)) (pgs_cons (pg_name (i := 1) scTruths.nd rfl (.inl rfl)) pgs_nil)))
      (pss_cons (ps_par rfl scTruths.nd (i := 2) (j := 3) rfl rfl (by decide) rfl rfl (pa_cons (pe_tup (pa_cons (pv 0) (pa_cons pe_str (pa_cons (pv 1) pa_nil)))) (pa_cons (pe_tup (pa_cons (pv 0) (pa_cons pe_str (pa_cons (pe_cmpR op_eq (pv 1) pe_int (nomark _)) pa_nil)))) pa_nil)) (by rfl))
      (pss_cons (ps_set (i := 4) scTruths.nd rfl (.inl rfl) (pe_lst (pa_cons (callG G5 hq hr (by rfl) g5 k5 b5 .nil pass0 (pa_cons (pv 2) pa_nil)) (pa_cons (callG G6 hq hr (by rfl) g6 k6 b6 .nil pass0 (pa_cons (pv 2) pa_nil)) (pa_cons (callG G3 hq hr (by rfl) g3 k3 b3 .nil pass0 (pa_cons (pv 1) pa_nil))
        (pa_cons (callG G4 hq hr (by rfl) g4 k4 b4 .nil pass0 (pa_cons (pv 1) pa_nil)) (pa_cons (callG G5 hq hr (by rfl) g5 k5 b5 .nil pass0 (pa_cons (pv 2) pa_nil)) pa_nil)))))))
      (pss_cons (ps_if (pt_cmpR (op_neD hr.units) (pv 4) (pe_op op_rep (pe_lst (pa_cons pe_bl pa_nil)) pe_int) (nomark _)) (pss_one (ps_ret pe_bl)) pss_nil)
      (pss_cons (ps_set (i := 4) scTruths.nd rfl (.inl rfl) (pe_lst (pa_cons (callG G5 hq hr (by rfl) g5 k5 b5 .nil pass0 (pa_cons (pv 3) pa_nil)) (pa_cons (callG G6 hq hr (by rfl) g6 k6 b6 .nil pass0 (pa_cons (pv 3) pa_nil))
        (pa_cons (callG G3 hq hr (by rfl) g3 k3 b3 .nil pass0 (pa_cons (pe_cmpR op_eq (pv 1) pe_int (nomark _)) pa_nil)) (pa_cons (callG G4 hq hr (by rfl) g4 k4 b4 .nil pass0 (pa_cons (pe_cmpR op_eq (pv 1) pe_int (nomark _)) pa_nil)) pa_nil))))))
      (pss_one (ps_if (PW.pt (pw_or (pt_cmpR (op_neD hr.units) (pv 4) (pe_op op_rep (pe_lst (pa_cons pe_bl pa_nil)) pe_int) (nomark _)) (pw_or1 (pt_cmpR op_notBl (callG G5 hq hr (by rfl) g5 k5 b5 .nil pass0 (pa_cons (pv 2) pa_nil)) pe_bl (nomark _))))) (pss_one (ps_ret pe_bl)) pss_nil)))))))
    (pss_one (ps_ret pe_bl)), ?_⟩
  refine ⟨by show 2 ≤ sizeLine; decide, fun t1 z1 => ⟨by show 2 ≤ sizeLine; decide, fun t2 z2 => ⟨by show 2 ≤ sizeLine; decide, fun t3 z3 => ⟨by show 3 ≤ sizeLine; decide, fun l zl => ?_⟩⟩⟩⟩
  have e1 := Ex.new (o := .tup [.str "set", .int 1]) z1
  have e2 := Ex.new (o := .tup [.str "skip", .int 1]) z2
  have e3 := Ex.new (o := .tup [.str "set", .int 0]) z3
  have e4 := Ex.new (o := .lst [.ref t1, .ref t2, .ref t3]) zl
  have c3 := e3.trans e4
  have c2 := e2.trans c3
  have c1 := e1.trans c2
  refine ⟨l, rfl, ⟨_, sq_of upd_same⟩, for_list (xs := [.ref t1, .ref t2, .ref t3]) (fun i σ H' => ∃ y0 y1 y2 y3 y4, σ = [y0, y1, y2, y3, y4] ∧ Ex (upd (upd (upd (upd H t1 (.tup [.str "set", .int 1])) t2 (.tup [.str "skip", .int 1])) t3 (.tup [.str "set", .int 0])) l (.lst [.ref t1, .ref t2, .ref t3])) H')
    ⟨none, none, none, none, none, rfl, Ex.refl _⟩ (fun i σ H' _ hP => ?_) (fun i x σ H' hx hP => ?_) (fun σ H' hP => ?_)⟩
  · obtain ⟨_, _, _, _, _, _, e⟩ := hP
    exact sq_of (e _ _ upd_same)
  · obtain ⟨y0, y1, y2, y3, y4, rfl, ee⟩ := hP
    have item : ∃ (t : Addr) (wd : Str) (n : Int), x = .ref t ∧ H' t = some (.tup [.str wd, .int n]) ∧ Tru wd n := by
      have hi : i < 3 := (List.getElem?_eq_some_iff.mp hx).1
      have h012 : i = 0 ∨ i = 1 ∨ i = 2 := by omega
      rcases h012 with rfl | rfl | rfl
      · exact ⟨t1, "set", 1, (Option.some.inj hx).symm, ee _ _ (c2 _ _ upd_same), tru1⟩
      · exact ⟨t2, "skip", 1, (Option.some.inj hx).symm, ee _ _ (c3 _ _ upd_same), tru2⟩
      · exact ⟨t3, "set", 0, (Option.some.inj hx).symm, ee _ _ (e4 _ _ upd_same), tru3⟩
    obtain ⟨t, wd, n, rfl, ht, T⟩ := item
    refine pair_go ht ?_
    refine ⟨.str wd, rfl, .int n, rfl, by show 3 ≤ sizeLine; decide, fun ts zs => ?_⟩
    refine ⟨.str wd, rfl, .int n, rfl, rfl, by show 3 ≤ sizeLine; decide, fun to zo => ?_⟩
    refine ⟨_, _, rfl, ?_⟩
    have es := Ex.new (o := .tup [.str wd, .str "a", .int n]) zs
    have eo := Ex.new (o := .tup [.str wd, .str "a", .bl (decide (V.int n = V.int 1))]) zo
    have hso := eo _ _ (upd_same (H := H') (a := ts) (o := .tup [.str wd, .str "a", .int n]))
    have hoo : (upd (upd H' ts (.tup [.str wd, .str "a", .int n])) to (.tup [.str wd, .str "a", .bl (decide (V.int n = V.int 1))])) to = some (.tup [.str wd, .str "a", .bl (decide (V.int n = V.int 1))]) := upd_same
    have eH := es.trans eo
    generalize upd (upd H' ts (.tup [.str wd, .str "a", .int n])) to (.tup [.str wd, .str "a", .bl (decide (V.int n = V.int 1))]) = H1 at hso hoo eH
    have ds : Dt H1 (.ref ts) (.tuple [.str wd, .str "a", .int n]) := .tup hso (.cons (.str _) (.cons (.str _) (.cons (.int _) .nil)))
    have dO : Dt H1 (.ref to) (.tuple [.str wd, .str "a", .bool (decide (V.int n = V.int 1))]) := .tup hoo (.cons (.str _) (.cons (.str _) (.cons (.bl _) .nil)))
    refine q_asgL (xs := [true, true, true, true, true].map V.bl) (el_lst (ea_cons (ev_is (ev_call (ea_cons (ev_var rfl) ea_nil) (spv_D ds T.sm1)) (by rw [T.a1])) (ea_cons (ev_is (ev_call (ea_cons (ev_var rfl) ea_nil) (spv_D ds T.sm1)) (by rw [T.a2])) (ea_cons (ev_is (ev_call (ea_cons (ev_var rfl) ea_nil) (spv_D (.int n) rfl)) rfl)
      (ea_cons (ev_is (ev_call (ea_cons (ev_var rfl) ea_nil) (spv_D (.int n) rfl)) (by rw [T.a3])) (ea_cons (ev_is (ev_call (ea_cons (ev_var rfl) ea_nil) (spv_D ds T.sm1)) (by rw [T.a1])) ea_nil))))) (by show 5 ≤ 100000; decide)) fun L1 H2 _ e2' hL1 => ?_
    refine q_when (ev_neB (n := 5) (c := true) (by decide) rfl hL1 (by decide +kernel) (by decide +kernel) (by decide +kernel)) (fun z => absurd z (by decide)) (fun _ H3 e3' => ?_)
    have e23 := e2'.trans e3'
    have nb : ∀ {H4 : Hp} {σ : L2.St}, σ[1]? = some (some (.int n)) → Ev (tOp rEq (tVar 1) (tC (.int 1))) σ H4 (.bl (decide (V.int n = V.int 1))) := fun h => ev_op (ev_var h) ev_c (rv_eq rfl)
    refine q_asgL (xs := [false, false, false, false].map V.bl) (el_lst (ea_cons (ev_is (ev_call (ea_cons (ev_var rfl) ea_nil) (spv_D (Dt.ex e23 dO) T.sm2)) (by rw [T.b1])) (ea_cons (ev_is (ev_call (ea_cons (ev_var rfl) ea_nil) (spv_D (Dt.ex e23 dO) T.sm2)) (by rw [T.b2])) (ea_cons (ev_is (ev_call (ea_cons (nb rfl) ea_nil) (spv_D (.bl _) rfl)) rfl)
      (ea_cons (ev_is (ev_call (ea_cons (nb rfl) ea_nil) (spv_D (.bl _) rfl)) (by rw [T.b3])) ea_nil)))) (by show 4 ≤ 100000; decide)) fun L2 H4 _ e4' hL2 => ?_
    refine s_when (b := false) (et_is (et_or (b := false) (ev_neB (n := 4) (c := false) (by decide) rfl hL2 (by decide +kernel) (by decide +kernel) (by decide +kernel)) fun _ => et_is (et_test (ev_op (ev_call (ea_cons (ev_var rfl) ea_nil) (spv_D (Dt.ex (e23.trans e4') ds) T.sm1)) ev_c (rv_val fun H6 _ Q q => ⟨_, _, rfl, rfl, q⟩))) (by rw [T.a1]; rfl)) rfl) (fun z => absurd z (by decide)) (fun _ H5 e5 => ?_)
    exact ⟨_, _, _, _, _, rfl, (((ee.trans eH).trans e23).trans e4').trans e5⟩
  · obtain ⟨_, _, _, _, _, rfl, ee⟩ := hP
    exact q H' (c1.trans ee)

def spLaw (K : PySem.W.Frag) : Sp := fun vs H Q _ => ∃ (a : Addr) (ns : List Int), vs = [.ref a] ∧ SqL K H a (ns.map V.int) ∧ ns.length ≤ 63 ∧ ∀ H', Q (.bl true) H'
theorem ok_law {f : Addr} {fd : FuncData} {k : Nat} (F : Fun K "law" "law" sLaw f fd) (B : Blt mg) (h1 : Has P w K mg base k "_law_truths_right" [] spTruth) (h2 : Has P w K mg base k "_law_right" ["_law_pot_here"] spRight) (h3 : Has P w K mg base k "_law_pot" ["_law_script", "_law_index"] (spPot K)) :
    FnG P w K mg base CX0 (k + 1) f fd ["_law_script"] (spLaw K) := by
  obtain ⟨f1, d1, G1, b1, k1, g1⟩ := h1.ex
  obtain ⟨f2, d2, G2, b2, k2, g2⟩ := h2.ex
  obtain ⟨f3, d3, G3, b3, k3, g3⟩ := h3.ex
  refine okG F scLaw (fun vs H Q E h => by obtain ⟨_, _, rfl, _⟩ := h; rfl) (fun cdv A outer s H vs Q E hq hr h => ?_)
  obtain ⟨a, ns, rfl, hS, hl, q⟩ := h
  refine ⟨_, pss_cons (ps_if (pt_not (pt_val (call0G G1 hq hr (by rfl) g1 k1 b1 .nil pass0))) (pss_one (ps_ret pe_bl)) pss_nil)
    (pss_one (ps_ret (pe_callB (cr_all rfl) (by rfl) B.all bAll (pa_cons (pe_lc (own := [("_law_index", 1)]) (g := gName 1) (tt := tYes) rfl scLaw.nd (pi_range1 (by rfl) B.range (pa_cons (pe_callB (call_max2 rfl) (by rfl) B.max bMax (pa_cons pe_int (pa_cons (pe_callB (call_min2 rfl) (by rfl) B.min bMin (pa_cons pe_int (pa_cons (pe_callB call_len_seq (by rfl) B.len bLen (pa_cons (pv 0) pa_nil)) pa_nil))) pa_nil))) pa_nil))
      (blkOk_by (own := [("_law_index", 1)]) (N := nLaw) (sc := defScope sLaw) (by decide +kernel)) (fun _ _ _ _ _ => pg_name (i := 1) scLaw.nd rfl (Or.inl rfl)) (fun _ _ _ _ _ => pts_nil)
      (fun _ _ _ _ _ => callG G2 hq hr (by rfl) g2 k2 b2 .nil pass0 (pa_cons (callG G3 hq hr (by rfl) g3 k3 b3 .nil pass0 (pa_cons (pv 0) (pa_cons (pv 1) pa_nil))) pa_nil))) pa_nil)))), ?_⟩
  refine q_when (b := false) (et_is (et_not (et_B (ev_call (z := .bl true) ea_nil fun H1 e1 Q q E => ⟨rfl, q⟩))) rfl) (fun z => absurd z (by decide)) (fun _ H1 e1 => ?_)
  have hS1 := ex_l e1 hS
  let mn : Int := if (((ns.map V.int).length : Nat) : Int) < 5 then (((ns.map V.int).length : Nat) : Int) else 5
  let mx : Int := if mn > 1 then mn else 1
  have hmn : 0 ≤ mn ∧ mn ≤ 5 := by
    show 0 ≤ (if (((ns.map V.int).length : Nat) : Int) < 5 then (((ns.map V.int).length : Nat) : Int) else 5) ∧ (if (((ns.map V.int).length : Nat) : Int) < 5 then (((ns.map V.int).length : Nat) : Int) else 5) ≤ 5
    split <;> omega
  have hmx : 1 ≤ mx ∧ mx ≤ 5 := by
    show 1 ≤ (if mn > 1 then mn else 1) ∧ (if mn > 1 then mn else 1) ≤ 5
    split <;> omega
  have lc := el_lcW (wi := iRng1 (tCons (tCB (fun xs H Q => ∃ i j, xs = [V.int i, V.int j] ∧ Q (.int (if j > i then j else i)) H) (tCons (tC (.int 1)) (tCons (tCB (fun xs H Q => ∃ i j, xs = [V.int i, V.int j] ∧ Q (.int (if j < i then j else i)) H) (tCons (tC (.int 5)) (tCons (tCB (fun xs H Q => ∃ p ys, xs = [V.ref p] ∧ (SqL K H p ys ∨ SqT K H p ys) ∧ Q (.int ys.length) H) (tCons (tVar 0) tNil)) tNil))) tNil))) tNil)) (g := gName 1) (tt := tYes)
    (te := tCall spRight [] E0 (tCons (tCall (spPot K) [] E0 (tCons (tVar 0) (tCons (tVar 1) tNil))) tNil)) (vs := [1]) (σ := [some (.ref a), none]) (H := H1) (n := mx.toNat) (Y := YFn fun i => .int (0 + i)) (fun _ => true) (fun _ => .bl true) (by omega)
    (fun H2 e2 R r => ⟨.ref a, rfl, a, _, rfl, .inl (ex_l e2 hS1), 5, _, rfl, 1, mn, rfl, mx, rfl, by omega, by omega, r H2 _ _ walk_range (fun _ _ _ z => z) (Ex.refl H2) trivial⟩)
    (fun i y H2 H3 e2 hi hy => by
      obtain ⟨rfl, rfl⟩ := hy
      refine ⟨Ex.refl _, [some (.ref a), some (.int (0 + i))], rfl, fun R r => r, fun H4 _ Q q => q H4 (Ex.refl H4), fun _ H4 e4 Q q => ?_⟩
      refine ⟨.ref a, rfl, .int (0 + i), rfl, a, ns, i, by rw [Int.zero_add]; rfl, ex_l (e2.trans e4) hS1, by omega, fun p H5 hp e5 pot => ⟨p, rfl, pot, fun H6 dr => q H6 fun b o hb => dr.at (ne_of_none hb hp) (e5 b o hb)⟩⟩)
  have eg : given mx.toNat (fun _ => true) (fun _ => V.bl true) = (List.replicate mx.toNat true).map V.bl := by
    rw [given_all, List.map_const', List.length_range, List.map_replicate]
  rw [eg] at lc
  refine s_ret (ev_all lc) fun H2 e2 => ?_
  have et : (List.replicate mx.toNat true).all id = true := List.all_eq_true.mpr fun b hb => by rw [List.eq_of_mem_replicate hb]; rfl
  rw [et]
  exact q H2
end
end Cr
namespace Cr
open PySem PySem.Spec PyProof.Rows L2 Evl
/-- a def of the top, as the head tells it -/
def DefAt (K : PySem.W.Frag) (x : Str) (st : Stmt) : Prop := ∃ (f : Addr) (od an : Option Addr) (sl : Array (Option Value)) (oc kV dc pm cd ct : Value),
  PySem.W.nsIn K mainGlobals x = some (some (.ref f)) ∧ K.lookup f = some ⟨oc, od, .func (PySem.W.fnOf x x (defArgs st) (defBody st) (defScope st) .none kV dc pm an cd ct), sl⟩ ∧ PySem.W.codeIn K cd x = true ∧ PySem.W.keepIn K (.ref f) = true
theorem defAt {K : PySem.W.Frag} {x : Str} {st : Stmt} {f : Addr} {od an : Option Addr} {sl : Array (Option Value)} {oc kV dc pm cd ct : Value} (a : PySem.W.nsIn K mainGlobals x = some (some (.ref f)))
    (l : K.lookup f = some ⟨oc, od, .func (PySem.W.fnOf x x (defArgs st) (defBody st) (defScope st) .none kV dc pm an cd ct), sl⟩) (c : PySem.W.codeIn K cd x = true) (k : PySem.W.keepIn K (.ref f) = true) : DefAt K x st :=
  ⟨f, od, an, sl, oc, kV, dc, pm, cd, ct, a, l, c, k⟩
/-- the binding of so many parameters -/
def BindsAll (x : Str) (st : Stmt) (ps : List Str) : Prop := ∀ (kV doc pm : Value) (an : Option Addr) (cdv ct : Value) (us : List Value), us.length = ps.length → bindArgs (PySem.W.fnOf x x (defArgs st) (defBody st) (defScope st) .none kV doc pm an cdv ct) ⟨us, []⟩ = pure (ps.zip us)
theorem has_mk {P : Program} {w : World} {K : PySem.W.Frag} {mg : Str → Option Value} {base h : Heap} {x : Str} {st : Stmt} {ps : List Str} {sp : Sp} {k : Nat} (X : K.In h) (G : h.Ns mainGlobals mg) (D : DefAt K x st) (hb : BindsAll x st ps)
    (ok : ∀ f fd, Fun K x x st f fd → FnG P w K mg base CX0 k f fd ps sp) : Has P w K mg base k x ps sp := by
  obtain ⟨f, od, an, sl, oc, kV, dc, pm, cd, ct, a, l, c, kp⟩ := D
  have F := fun_mk (st := st) l c kp
  exact ⟨⟨f, _, ok f _ F, F.binds hb, kp, PySem.W.mg_of X G a⟩⟩
theorem Has.up {P : Program} {w : World} {K : PySem.W.Frag} {mg : Str → Option Value} {base : Heap} {x : Str} {ps : List Str} {sp : Sp} {j k : Nat} (h : Has P w K mg base j x ps sp) (le : j ≤ k) : Has P w K mg base k x ps sp := by
  obtain ⟨f, fd, G, b, kp, g⟩ := h.ex
  exact ⟨⟨f, fd, G.up le, b, kp, g⟩⟩
/-! ### tuples and the table of the top -/
theorem ktupV {K : PySem.W.Frag} {a : Addr} {xs : List Str} {its : List Value} {dd : Option Addr} {sl : Array (Option Value)} {n : Nat} (l : K.lookup a = some ⟨.type "tuple", dd, .seq its.toArray n, sl⟩) (v : Vals (xs.map V.str) its) (hz : xs.length ≤ 10) : KTup K a (xs.map V.str) := by
  refine ⟨_, _, _, l, rfl, rfl, ?_, by simpa using v⟩
  have := v.length
  rw [List.length_map] at this
  rw [List.size_toArray, ← this]
  exact sz_of (by omega)
theorem ktup0 {K : PySem.W.Frag} {a : Addr} {dd : Option Addr} {sl : Array (Option Value)} {n : Nat} (l : K.lookup a = some ⟨.type "tuple", dd, .seq #[] n, sl⟩) : KTup K a (([] : List Str).map V.str) := ktupV (xs := ([] : List Str)) l .nil (by show 0 ≤ 10; decide)
theorem ktup1 {K : PySem.W.Frag} {a : Addr} {x1 : Str} {t1 : Tok} {dd : Option Addr} {sl : Array (Option Value)} {n : Nat} (l : K.lookup a = some ⟨.type "tuple", dd, .seq #[.str x1 t1] n, sl⟩) : KTup K a (([x1] : List Str).map V.str) := ktupV (xs := ([x1] : List Str)) l (.cons ⟨t1, rfl⟩ .nil) (by show 1 ≤ 10; decide)
theorem ktup2 {K : PySem.W.Frag} {a : Addr} {x1 x2 : Str} {t1 t2 : Tok} {dd : Option Addr} {sl : Array (Option Value)} {n : Nat} (l : K.lookup a = some ⟨.type "tuple", dd, .seq #[.str x1 t1, .str x2 t2] n, sl⟩) : KTup K a (([x1, x2] : List Str).map V.str) := ktupV (xs := ([x1, x2] : List Str)) l (.cons ⟨t1, rfl⟩ (.cons ⟨t2, rfl⟩ .nil)) (by show 2 ≤ 10; decide)
theorem ktup3 {K : PySem.W.Frag} {a : Addr} {x1 x2 x3 : Str} {t1 t2 t3 : Tok} {dd : Option Addr} {sl : Array (Option Value)} {n : Nat} (l : K.lookup a = some ⟨.type "tuple", dd, .seq #[.str x1 t1, .str x2 t2, .str x3 t3] n, sl⟩) : KTup K a (([x1, x2, x3] : List Str).map V.str) := ktupV (xs := ([x1, x2, x3] : List Str)) l (.cons ⟨t1, rfl⟩ (.cons ⟨t2, rfl⟩ (.cons ⟨t3, rfl⟩ .nil))) (by show 3 ≤ 10; decide)
theorem ktup4 {K : PySem.W.Frag} {a : Addr} {x1 x2 x3 x4 : Str} {t1 t2 t3 t4 : Tok} {dd : Option Addr} {sl : Array (Option Value)} {n : Nat} (l : K.lookup a = some ⟨.type "tuple", dd, .seq #[.str x1 t1, .str x2 t2, .str x3 t3, .str x4 t4] n, sl⟩) : KTup K a (([x1, x2, x3, x4] : List Str).map V.str) := ktupV (xs := ([x1, x2, x3, x4] : List Str)) l (.cons ⟨t1, rfl⟩ (.cons ⟨t2, rfl⟩ (.cons ⟨t3, rfl⟩ (.cons ⟨t4, rfl⟩ .nil)))) (by show 4 ≤ 10; decide)
theorem nsIn_dict {K : PySem.W.Frag} {d : Addr} {oc : Value} {od : Option Addr} {es : List DictEntry} {n : Nat} {sl : Array (Option Value)} {z : Str} (l : K.lookup d = some ⟨oc, od, .dict es.toArray n, sl⟩) (any : es.any (·.refKey) = false) :
    PySem.W.nsIn K d z = some ((es.find? (·.key.isStr z)).map (·.val)) := by
  unfold PySem.W.nsIn
  rw [l]
  show (match es.find? (·.key.isStr z) with | some e => some (some e.val) | none => if es.any (·.refKey) = true then none else some none) = _
  rw [any]
  cases es.find? (·.key.isStr z) <;> rfl
theorem find_str {z k : Str} {h : Int} {t : Tok} {v : Value} {r : List DictEntry} : (⟨h, .str k t, v⟩ :: r : List DictEntry).find? (·.key.isStr z) = if z = k then some ⟨h, .str k t, v⟩ else r.find? (·.key.isStr z) := by
  rw [List.find?_cons]
  by_cases e : z = k
  · subst e
    rw [if_pos rfl, show (Value.str z t).isStr z = true by simp [Value.isStr]]
  · rw [if_neg e, show (Value.str k t).isStr z = false by simp [Value.isStr]; exact fun q => e q.symm]
theorem shapes_mk {K : PySem.W.Frag} {w : World} {dS : Addr} {n : Nat} {h1 h2 h3 h4 h5 h6 h7 h8 : Int} {t1 t2 t3 t4 t5 t6 t7 t8 : Tok} {a1 a2 a3 a4 a5 a6 a7 a8 : Addr}
    (l : K.lookup dS = some ⟨.type "dict", none, .dict #[⟨h1, .str "set" t1, .ref a1⟩, ⟨h2, .str "add" t2, .ref a2⟩, ⟨h3, .str "skip" t3, .ref a3⟩, ⟨h4, .str "export" t4, .ref a4⟩, ⟨h5, .str "read" t5, .ref a5⟩, ⟨h6, .str "need" t6, .ref a6⟩, ⟨h7, .str "try" t7, .ref a7⟩, ⟨h8, .str "fail" t8, .ref a8⟩] n, #[]⟩)
    (e1 : h1 = PyData.keyHash w.params "set") (e2 : h2 = PyData.keyHash w.params "add") (e3 : h3 = PyData.keyHash w.params "skip") (e4 : h4 = PyData.keyHash w.params "export") (e5 : h5 = PyData.keyHash w.params "read") (e6 : h6 = PyData.keyHash w.params "need") (e7 : h7 = PyData.keyHash w.params "try") (e8 : h8 = PyData.keyHash w.params "fail")
    (low : (dS == sysModules) = false)
    (k1 : KTup K a1 ((["variable", "integer"] : List Str).map V.str)) (k2 : KTup K a2 ((["variable", "variable"] : List Str).map V.str)) (k3 : KTup K a3 ((["variable", "length"] : List Str).map V.str)) (k4 : KTup K a4 ((["name", "variable"] : List Str).map V.str))
    (k5 : KTup K a5 ((["variable", "module", "name"] : List Str).map V.str)) (k6 : KTup K a6 ((["module"] : List Str).map V.str)) (k7 : KTup K a7 ((["module", "variable"] : List Str).map V.str)) (k8 : KTup K a8 (([] : List Str).map V.str)) :
    ∃ es, Shapes K w dS es n := by
  refine ⟨_, ⟨l, ?_, low⟩, fun z hz => ?_, fun z ks hz => ?_⟩
  · exact ⟨⟨_, _, rfl, e1⟩, ⟨_, _, rfl, e2⟩, ⟨_, _, rfl, e3⟩, ⟨_, _, rfl, e4⟩, ⟨_, _, rfl, e5⟩, ⟨_, _, rfl, e6⟩, ⟨_, _, rfl, e7⟩, ⟨_, _, rfl, e8⟩, trivial⟩
  all_goals
    have ns := nsIn_dict (z := z) l (by rfl)
    rw [find_str, find_str, find_str, find_str, find_str, find_str, find_str, find_str] at ns
    rw [ns]
    clear ns
    unfold shapeOf at hz
  · by_cases c1 : z = "set"
    · rw [if_pos c1] at hz; cases hz
    by_cases c2 : z = "add"
    · rw [if_neg c1, if_pos c2] at hz; cases hz
    by_cases c3 : z = "skip"
    · rw [if_neg c1, if_neg c2, if_pos c3] at hz; cases hz
    by_cases c4 : z = "export"
    · rw [if_neg c1, if_neg c2, if_neg c3, if_pos c4] at hz; cases hz
    by_cases c5 : z = "read"
    · rw [if_neg c1, if_neg c2, if_neg c3, if_neg c4, if_pos c5] at hz; cases hz
    by_cases c6 : z = "need"
    · rw [if_neg c1, if_neg c2, if_neg c3, if_neg c4, if_neg c5, if_pos c6] at hz; cases hz
    by_cases c7 : z = "try"
    · rw [if_neg c1, if_neg c2, if_neg c3, if_neg c4, if_neg c5, if_neg c6, if_pos c7] at hz; cases hz
    by_cases c8 : z = "fail"
    · rw [if_neg c1, if_neg c2, if_neg c3, if_neg c4, if_neg c5, if_neg c6, if_neg c7, if_pos c8] at hz; cases hz
    rw [if_neg c1, if_neg c2, if_neg c3, if_neg c4, if_neg c5, if_neg c6, if_neg c7, if_neg c8]
    rfl
  · by_cases c1 : z = "set"
    · rw [if_pos c1] at hz ⊢; cases hz; exact ⟨a1, rfl, k1⟩
    by_cases c2 : z = "add"
    · rw [if_neg c1, if_pos c2] at hz ⊢; cases hz; exact ⟨a2, rfl, k2⟩
    by_cases c3 : z = "skip"
    · rw [if_neg c1, if_neg c2, if_pos c3] at hz ⊢; cases hz; exact ⟨a3, rfl, k3⟩
    by_cases c4 : z = "export"
    · rw [if_neg c1, if_neg c2, if_neg c3, if_pos c4] at hz ⊢; cases hz; exact ⟨a4, rfl, k4⟩
    by_cases c5 : z = "read"
    · rw [if_neg c1, if_neg c2, if_neg c3, if_neg c4, if_pos c5] at hz ⊢; cases hz; exact ⟨a5, rfl, k5⟩
    by_cases c6 : z = "need"
    · rw [if_neg c1, if_neg c2, if_neg c3, if_neg c4, if_neg c5, if_pos c6] at hz ⊢; cases hz; exact ⟨a6, rfl, k6⟩
    by_cases c7 : z = "try"
    · rw [if_neg c1, if_neg c2, if_neg c3, if_neg c4, if_neg c5, if_neg c6, if_pos c7] at hz ⊢; cases hz; exact ⟨a7, rfl, k7⟩
    by_cases c8 : z = "fail"
    · rw [if_neg c1, if_neg c2, if_neg c3, if_neg c4, if_neg c5, if_neg c6, if_neg c7, if_pos c8] at hz ⊢; cases hz; exact ⟨a8, rfl, k8⟩
    rw [if_neg c1, if_neg c2, if_neg c3, if_neg c4, if_neg c5, if_neg c6, if_neg c7, if_neg c8] at hz
    cases hz

/-- all that the top has left, and the law's own def -/
theorem all_mk {P : Program} {w : World} {K : PySem.W.Frag} {h : Heap} {mg : Str → Option Value} {fa aV aP dS : Addr} {tL : Tok} {n : Nat} (X : K.In h) (G : h.Ns mainGlobals mg) (hfa : mg "law" = some (.ref fa)) (B : Blt mg)
    (v1 : PySem.W.nsIn K mainGlobals "VARIABLES" = some (some (.ref aV))) (v2 : KTup K aV (vars4.map V.str)) (v3 : PySem.W.nsIn K mainGlobals "LONGEST_NAME" = some (some (.int 8 tL)))
    (v4 : PySem.W.nsIn K mainGlobals "PLAIN_STEPS" = some (some (.ref aP))) (v5 : KTup K aP (plain3.map V.str)) (v6 : PySem.W.nsIn K mainGlobals "SHAPES" = some (some (.ref dS))) (S' : ∃ es, Shapes K w dS es n)
    (d3 : DefAt K "is_integer" sIsInteger) (d4 : DefAt K "is_count" sIsCount) (d5 : DefAt K "is_name" sIsName) (d6 : DefAt K "is_variable" sIsVariable) (d10 : DefAt K "is_item" sIsItem) (d11 : DefAt K "is_step" sIsStep) (d12 : DefAt K "is_plain" sIsPlain)
    (d14 : DefAt K "_law_pot" sPot) (d15 : DefAt K "_law_draw" sDraw) (d16 : DefAt K "_law_choice" sChoice) (d17 : DefAt K "_law_name" sName) (d18 : DefAt K "_law_names" sNames) (d19 : DefAt K "_law_integer" sInteger) (d20 : DefAt K "_law_step" sStep)
    (d21 : DefAt K "_law_is_whole" sWhole) (d22 : DefAt K "_law_is_word" sWord) (d23 : DefAt K "_law_fits" sFits) (d24 : DefAt K "_law_is_right_step" sRightStep) (d25 : DefAt K "_law_odd" sOdd) (d26 : DefAt K "_law_changed" sChanged) (d27 : DefAt K "_law_judged" sJudged)
    (d28 : DefAt K "_law_right" sRight) (d29 : DefAt K "_law_truths_right" sTruths) (d30 : DefAt K "law" sLaw) :
    ∃ fd : FuncData, (∀ (s : Shared) (v : Value), BindsTo s fd ⟨[v], []⟩ [("_law_script", v)]) ∧ ∀ base : Heap, K.In base → base.Ns mainGlobals mg → FnG P w K mg base CX0 7 fa fd ["_law_script"] (spLaw K) := by
  obtain ⟨es, S⟩ := S'
  obtain ⟨f, od, an, sl, oc, kV, dc, pm, cd, ct, a, l, c, kp⟩ := d30
  have e := hfa.symm.trans (PySem.W.mg_of X G a)
  cases e
  have F := fun_mk (st := sLaw) l c kp
  refine ⟨PySem.W.fnOf "law" "law" (defArgs sLaw) (defBody sLaw) (defScope sLaw) .none kV dc pm an cd ct, fun s v => .of_eq rfl, fun base _ _ => ?_⟩
  have gV := PySem.W.mg_of X G v1
  have gP := PySem.W.mg_of X G v4
  have gS := PySem.W.mg_of X G v6
  have gL := PySem.W.mg_of X G v3
  have b1 : ∀ {x : Str} {st : Stmt} {p : Str}, BindsAll x st [p] → BindsAll x st [p] := id
  -- level 1
  have hI : Has P w K mg base 1 "is_integer" ["value"] (spD isInteger) := has_mk X G d3 (fun _ _ _ _ _ _ us hl => match us, hl with | [_], _ => rfl) fun f fd F => ok_isInteger F B
  have hN : Has P w K mg base 1 "is_name" ["value"] (spD isName) := has_mk X G d5 (fun _ _ _ _ _ _ us hl => match us, hl with | [_], _ => rfl) fun f fd F => ok_isName F B gL
  have hV : Has P w K mg base 1 "is_variable" ["value"] (spD isVar) := has_mk X G d6 (fun _ _ _ _ _ _ us hl => match us, hl with | [_], _ => rfl) fun f fd F => ok_isVar F B gV v2
  have hPot : Has P w K mg base 1 "_law_pot" ["_law_script", "_law_index"] (spPot K) := has_mk X G d14 (fun _ _ _ _ _ _ us hl => match us, hl with | [_, _], _ => rfl) fun f fd F => ok_pot F B
  have hD : Has P w K mg base 1 "_law_draw" ["_law_pot_here", "_law_most"] spDraw := has_mk X G d15 (fun _ _ _ _ _ _ us hl => match us, hl with | [_, _], _ => rfl) fun f fd F => ok_draw F B
  have hW : Has P w K mg base 1 "_law_is_whole" ["_law_value"] (spD isInteger) := has_mk X G d21 (fun _ _ _ _ _ _ us hl => match us, hl with | [_], _ => rfl) fun f fd F => ok_whole F B
  have hWd : Has P w K mg base 1 "_law_is_word" ["_law_value"] (spD isName) := has_mk X G d22 (fun _ _ _ _ _ _ us hl => match us, hl with | [_], _ => rfl) fun f fd F => ok_word F B
  -- level 2
  have hC : Has P w K mg base 2 "is_count" ["value"] (spD isCount) := has_mk X G d4 (fun _ _ _ _ _ _ us hl => match us, hl with | [_], _ => rfl) fun f fd F => by
    obtain ⟨fI, fdI, GI, bI, kI, gI⟩ := hI.ex
    exact ok_isCount F GI bI kI gI
  have hIt : Has P w K mg base 2 "is_item" ["value", "kind"] spItem := has_mk X G d10 (fun _ _ _ _ _ _ us hl => match us, hl with | [_, _], _ => rfl) fun f fd F => by
    obtain ⟨fI, fdI, GI, bI, kI, gI⟩ := hI.ex
    obtain ⟨fV, fdV, GV, bV, kV', gV'⟩ := hV.ex
    obtain ⟨fN, fdN, GN, bN, kN, gN⟩ := hN.ex
    exact ok_isItem F GI bI kI gI GV bV kV' gV' GN bN kN gN
  have hCh : Has P w K mg base 2 "_law_choice" ["_law_pot_here", "_law_options"] spChoice := has_mk X G d16 (fun _ _ _ _ _ _ us hl => match us, hl with | [_, _], _ => rfl) fun f fd F => ok_choice F B hD
  have hNm : Has P w K mg base 2 "_law_name" ["_law_pot_here", "_law_used"] spName := has_mk X G d17 (fun _ _ _ _ _ _ us hl => match us, hl with | [_, _], _ => rfl) fun f fd F => ok_name F B hD
  have hFt : Has P w K mg base 2 "_law_fits" ["_law_sort", "_law_value"] spFits := has_mk X G d23 (fun _ _ _ _ _ _ us hl => match us, hl with | [_, _], _ => rfl) fun f fd F => ok_fits (fW := f) (fN := f) (fdW := fd) (fdN := fd) F B hW hWd
  -- level 3
  have hSt : Has P w K mg base 3 "is_step" ["value"] (spD isStep) := has_mk X G d11 (fun _ _ _ _ _ _ us hl => match us, hl with | [_], _ => rfl) fun f fd F => by
    obtain ⟨fT, fdT, GT, bT, kT, gT⟩ := hIt.ex
    exact ok_isStep F B gS S GT bT kT gT
  have hRs : Has P w K mg base 3 "_law_is_right_step" ["_law_value"] (spD isStep) := has_mk X G d24 (fun _ _ _ _ _ _ us hl => match us, hl with | [_], _ => rfl) fun f fd F => ok_rightStep F B hFt
  have hNs : Has P w K mg base 3 "_law_names" ["_law_pot_here", "_law_number"] spNames := has_mk X G d18 (fun _ _ _ _ _ _ us hl => match us, hl with | [_, _], _ => rfl) fun f fd F => ok_names F B hNm
  have hIn : Has P w K mg base 3 "_law_integer" ["_law_pot_here"] spInteger := has_mk X G d19 (fun _ _ _ _ _ _ us hl => match us, hl with | [_], _ => rfl) fun f fd F => ok_integer F (hD.up (by decide)) hCh
  have hOd : Has P w K mg base 3 "_law_odd" ["_law_pot_here"] spOdd := has_mk X G d25 (fun _ _ _ _ _ _ us hl => match us, hl with | [_], _ => rfl) fun f fd F => ok_odd F hCh
  -- level 4
  have hPl : Has P w K mg base 4 "is_plain" ["step"] (spD isPlain) := has_mk X G d12 (fun _ _ _ _ _ _ us hl => match us, hl with | [_], _ => rfl) fun f fd F => by
    obtain ⟨fS, fdS, GS, bS, kS, gS'⟩ := hSt.ex
    exact ok_isPlain F gP v5 GS bS kS gS'
  have hSp : Has P w K mg base 4 "_law_step" ["_law_pot_here", "_law_modules", "_law_names_here", "_law_after"] spStep := has_mk X G d20 (fun _ _ _ _ _ _ us hl => match us, hl with | [_, _, _, _], _ => rfl) fun f fd F => ok_step F B (hD.up (by decide)) (hCh.up (by decide)) hIn
  have hCg : Has P w K mg base 4 "_law_changed" ["_law_pot_here", "_law_step_here"] spChanged := has_mk X G d26 (fun _ _ _ _ _ _ us hl => match us, hl with | [_, _], _ => rfl) fun f fd F => ok_changed F B (hD.up (by decide)) (hCh.up (by decide)) hOd
  -- level 5
  have hJ : Has P w K mg base 5 "_law_judged" ["_law_value"] spJ := has_mk X G d27 (fun _ _ _ _ _ _ us hl => match us, hl with | [_], _ => rfl) fun f fd F =>
    ok_judged F B (hRs.up (by decide)) (hN.up (by decide)) (hI.up (by decide)) (hC.up (by decide)) (hSt.up (by decide)) hPl (hW.up (by decide)) (hWd.up (by decide))
  have hT : Has P w K mg base 5 "_law_truths_right" [] spTruth := has_mk X G d29 (fun _ _ _ _ _ _ us hl => match us, hl with | [], _ => rfl) fun f fd F => ok_truths F (hI.up (by decide)) (hC.up (by decide)) (hSt.up (by decide)) hPl
  have hR : Has P w K mg base 6 "_law_right" ["_law_pot_here"] spRight := has_mk X G d28 (fun _ _ _ _ _ _ us hl => match us, hl with | [_], _ => rfl) fun f fd F =>
    ok_right F B gV v2 (hNs.up (by decide)) (hSp.up (by decide)) (hD.up (by decide)) (hSt.up (by decide)) hJ (hCg.up (by decide)) (hOd.up (by decide)) (hIn.up (by decide)) (hCh.up (by decide))
  exact ok_law F B (hT.up (by decide)) hR (hPot.up (by decide))
end Cr
open PySem PySem.W PyProof.Rows
set_option maxRecDepth 100000 in
set_option maxHeartbeats 0 in
theorem PySem.Challenge.cw_cycleready_k11_words_and_steps_holds : PySem.Challenge.rw_cycleready_k11_words_and_steps.Holds := by
  w_on; o_law; k_head; (case hw => w_witness2)
  k_fill
  refine Cr.walkG (l := PySem.Challenge.rw_cycleready_k11_words_and_steps) (n := 63) (k := 7) (x := "_law_script") (sp := fun w => Cr.spLaw _) rfl (by decide) rfl ⟨rfl, by decide, by decide⟩ (fun w h Y => PySem.W.kIn_of Y) ?F (fun _ _ a ns hl _ hS => ⟨a, ns, rfl, hS, hl, fun _ => rfl⟩)
  case F =>
    intro w mg fa h KX G hmg
    have B : Cr.Blt mg := by
      constructor
      · exact PySem.W.mg_none_of KX G (by k_is)
      · exact PySem.W.mg_none_of KX G (by k_is)
      · exact PySem.W.mg_none_of KX G (by k_is)
      · exact PySem.W.mg_none_of KX G (by k_is)
      · exact PySem.W.mg_none_of KX G (by k_is)
      · exact PySem.W.mg_none_of KX G (by k_is)
      · exact PySem.W.mg_none_of KX G (by k_is)
      · exact PySem.W.mg_none_of KX G (by k_is)
      · exact PySem.W.mg_none_of KX G (by k_is)
      · exact PySem.W.mg_none_of KX G (by k_is)
      · exact PySem.W.mg_none_of KX G (by k_is)
      · exact PySem.W.mg_none_of KX G (by k_is)
      · exact PySem.W.mg_none_of KX G (by k_is)
      · exact PySem.W.mg_none_of KX G (by k_is)
      · exact PySem.W.mg_none_of KX G (by k_is)
    refine' Cr.all_mk KX G hmg B ?v1 ?v2 ?v3 ?v4 ?v5 ?v6 ?S ?d3 ?d4 ?d5 ?d6 ?d10 ?d11 ?d12 ?d14 ?d15 ?d16 ?d17 ?d18 ?d19 ?d20 ?d21 ?d22 ?d23 ?d24 ?d25 ?d26 ?d27 ?d28 ?d29 ?d30
    (case v1 => k_is)
    (case v2 => refine' Cr.ktup4 ?l; (case l => k_is))
    (case v3 => k_is)
    (case v4 => k_is)
    (case v5 => refine' Cr.ktup3 ?l; (case l => k_is))
    (case v6 => k_is)
    (case S => refine' Cr.shapes_mk ?l ?e1 ?e2 ?e3 ?e4 ?e5 ?e6 ?e7 ?e8 ?low ?k1 ?k2 ?k3 ?k4 ?k5 ?k6 ?k7 ?k8; (case l => k_is); (case e1 => first | rfl | k_is); (case e2 => first | rfl | k_is); (case e3 => first | rfl | k_is); (case e4 => first | rfl | k_is); (case e5 => first | rfl | k_is); (case e6 => first | rfl | k_is); (case e7 => first | rfl | k_is); (case e8 => first | rfl | k_is); (case low => first | rfl | decide | k_is); (case k1 => refine' Cr.ktup2 ?l; (case l => k_is)); (case k2 => refine' Cr.ktup2 ?l; (case l => k_is)); (case k3 => refine' Cr.ktup2 ?l; (case l => k_is)); (case k4 => refine' Cr.ktup2 ?l; (case l => k_is)); (case k5 => refine' Cr.ktup3 ?l; (case l => k_is)); (case k6 => refine' Cr.ktup1 ?l; (case l => k_is)); (case k7 => refine' Cr.ktup2 ?l; (case l => k_is)); (case k8 => refine' Cr.ktup0 ?l; (case l => k_is)))
    (case d3 => refine' Cr.defAt ?a ?l ?c ?k; (case a => k_is); (case l => k_is); (case c => k_is); (case k => k_is))
    (case d4 => refine' Cr.defAt ?a ?l ?c ?k; (case a => k_is); (case l => k_is); (case c => k_is); (case k => k_is))
    (case d5 => refine' Cr.defAt ?a ?l ?c ?k; (case a => k_is); (case l => k_is); (case c => k_is); (case k => k_is))
    (case d6 => refine' Cr.defAt ?a ?l ?c ?k; (case a => k_is); (case l => k_is); (case c => k_is); (case k => k_is))
    (case d10 => refine' Cr.defAt ?a ?l ?c ?k; (case a => k_is); (case l => k_is); (case c => k_is); (case k => k_is))
    (case d11 => refine' Cr.defAt ?a ?l ?c ?k; (case a => k_is); (case l => k_is); (case c => k_is); (case k => k_is))
    (case d12 => refine' Cr.defAt ?a ?l ?c ?k; (case a => k_is); (case l => k_is); (case c => k_is); (case k => k_is))
    (case d14 => refine' Cr.defAt ?a ?l ?c ?k; (case a => k_is); (case l => k_is); (case c => k_is); (case k => k_is))
    (case d15 => refine' Cr.defAt ?a ?l ?c ?k; (case a => k_is); (case l => k_is); (case c => k_is); (case k => k_is))
    (case d16 => refine' Cr.defAt ?a ?l ?c ?k; (case a => k_is); (case l => k_is); (case c => k_is); (case k => k_is))
    (case d17 => refine' Cr.defAt ?a ?l ?c ?k; (case a => k_is); (case l => k_is); (case c => k_is); (case k => k_is))
    (case d18 => refine' Cr.defAt ?a ?l ?c ?k; (case a => k_is); (case l => k_is); (case c => k_is); (case k => k_is))
    (case d19 => refine' Cr.defAt ?a ?l ?c ?k; (case a => k_is); (case l => k_is); (case c => k_is); (case k => k_is))
    (case d20 => refine' Cr.defAt ?a ?l ?c ?k; (case a => k_is); (case l => k_is); (case c => k_is); (case k => k_is))
    (case d21 => refine' Cr.defAt ?a ?l ?c ?k; (case a => k_is); (case l => k_is); (case c => k_is); (case k => k_is))
    (case d22 => refine' Cr.defAt ?a ?l ?c ?k; (case a => k_is); (case l => k_is); (case c => k_is); (case k => k_is))
    (case d23 => refine' Cr.defAt ?a ?l ?c ?k; (case a => k_is); (case l => k_is); (case c => k_is); (case k => k_is))
    (case d24 => refine' Cr.defAt ?a ?l ?c ?k; (case a => k_is); (case l => k_is); (case c => k_is); (case k => k_is))
    (case d25 => refine' Cr.defAt ?a ?l ?c ?k; (case a => k_is); (case l => k_is); (case c => k_is); (case k => k_is))
    (case d26 => refine' Cr.defAt ?a ?l ?c ?k; (case a => k_is); (case l => k_is); (case c => k_is); (case k => k_is))
    (case d27 => refine' Cr.defAt ?a ?l ?c ?k; (case a => k_is); (case l => k_is); (case c => k_is); (case k => k_is))
    (case d28 => refine' Cr.defAt ?a ?l ?c ?k; (case a => k_is); (case l => k_is); (case c => k_is); (case k => k_is))
    (case d29 => refine' Cr.defAt ?a ?l ?c ?k; (case a => k_is); (case l => k_is); (case c => k_is); (case k => k_is))
    (case d30 => refine' Cr.defAt ?a ?l ?c ?k; (case a => k_is); (case l => k_is); (case c => k_is); (case k => k_is))
