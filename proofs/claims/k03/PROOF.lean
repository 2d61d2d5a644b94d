import PyProof.Rows.All
import Wide.All
import OpenK.AllK
import Wide.FinOn
import PyProof.ReprRoads
import HandS.Base
import HandS.Call
import HandS.List
import HandS.Comp
import HandS.Dict
import HandS.Iter
import HandS.Ends
import HandS.Words
import HandS.Evl
import HandS.TupMul
import HandS.TupAny
import HandS.Property
import HandS.IsInst
import HandS.ClsMeth
import HandS.Conv
import HandS.WordsList
import HandS.Walk
import PySem.Challenge.RW_passplaces_k03_places_changed
import HandS.Star
import OpenK.KOps
import PyProof.InstEq
import PyProof.ReprLen
import HandS.Lambda
import HandS.Rev
import HandS.WordsExc
import HandS.Exc
import HandS.ExcInit
import HandS.MakeKwOnly
import HandS.ExcField
import HandS.Deep
import HandS.SetFor
import HandS.Strs
import HandS.Style
import HandS.TryOnly
import KE.KExcSuper
import HandS.Defaults
import PyProof.TableCode
set_option Elab.async false
set_option linter.all false
set_option maxRecDepth 100000
set_option maxHeartbeats 2000000
/-! Pg: defs that are called where nothing is being shown (guards are empty). -/
namespace Pg
open PySem PySem.Spec PyProof.Rows L2

/-- the def at f keeps its promise where no object is being shown -/
structure FnG (P : Program) (w : World) (K : PySem.W.Frag) (mg : Str → Option Value) (base : Heap) (k : Nat) (f : Addr) (fd : FuncData) (ps : List Str) (sp : Sp) : Prop where
  len : ∀ vs H Q E, sp vs H Q E → vs.length = ps.length
  run : ∀ (A : Around) (outer : List Env) (s : Shared) (H : Hp) (args : Args) (us : List Value) (vs : List V) (Q : VK) (E : XK), Room k A → A.guards = some [] → Env0 P w K mg base A outer s H → BindsTo s fd args (ps.zip us) → Vals vs us → sp vs H Q E →
    codeAny (model P w) A (.call (.ref f) args) (CR CX0 outer P w H s Q E) s

theorem gd_deeper {A : Around} {env : Env} (h : A.guards = some []) : (A.deeper env).guards = some [] := h

section
variable {P : Program} {w : World} {K : PySem.W.Frag} {mg : Str → Option Value} {base : Heap} {k : Nat} {f : Addr}
theorem fnG_of {name qual : Str} {params : Arguments} {body : List Stmt} {scope : Scope} {dV kV doc pm cdv ct oc : Value} {an od : Option Addr} {osl : Array (Option Value)} {N ps : List Str} {sp : Sp}
    (lk : K.lookup f = some ⟨oc, od, .func (PySem.W.fnOf name qual params body scope dV kV doc pm an cdv ct), osl⟩) (hcd : PySem.W.codeIn K cdv qual = true) (S : FnScope N ps scope)
    (len : ∀ vs H Q E, sp vs H Q E → vs.length = ps.length)
    (hbody : ∀ (A : Around) (outer : List Env) (s : Shared) (H : Hp) (vs : List V) (Q : VK) (E : XK), Room k (A.deeper (envOfC qual scope s.heap.objs.size f cdv)) → (A.deeper (envOfC qual scope s.heap.objs.size f cdv)).guards = some [] → sp vs H Q E →
      ∃ t, PSs (cxOf CX0 P w K mg base N qual scope f cdv A outer s H E) body t ∧ t { nx := fun _ H' => Q .non H', rt := Q } (start N vs) H) :
    FnG P w K mg base (k + 1) f (PySem.W.fnOf name qual params body scope dV kV doc pm an cdv ct) ps sp := by
  refine ⟨len, fun A outer s H args us vs Q E hr hgd e0 hb r hsp => ?_⟩
  have hl := len _ _ _ _ hsp
  have KX : K.In s.heap := e0.mod.kin.keeps fun b o e => (e0.bs b o e).1
  have lim : s.heap.NoLimit := e0.mod.nolimit.keeps fun b o e => (e0.bs b o e).1
  have hkind : ∀ y ∈ ps.zip us, scope.names.lookup y.1 = some .local ∨ (scope.names.lookup y.1 = some .cell ∧ ((cellsFrom (s.heap.objs.size + 1) scope.names []).lookup y.1).isSome = true) := fun ⟨n, v⟩ hy => by
    rcases S.par n (List.of_mem_zip hy).1 with q | q
    · exact .inl q
    · exact .inr ⟨q, PySem.W.cellsFrom_some _ _ _ (.inl q)⟩
  refine codeAny_call_function hr.depth (KX _ _ lk) rfl S.co S.gen rfl (PySem.W.codeRec_of KX hcd) (hb _ _ _ _ ?_)
  refine wpAny_newFunctionEnv_cells S.kind hkind fun env he s1 x => ?_
  subst he
  refine ⟨lim.keeps x.toInCall.keep, codeAny_func ?_⟩
  obtain ⟨t, ht, hq⟩ := hbody A outer s H vs Q E (hr.deeper _) (gd_deeper hgd) hsp
  have I : Inv (cxOf CX0 P w K mg base N qual scope f cdv A outer s H E) [] (start N vs) H s1 := inv_start S hr.hd e0 hl r x
  refine wpAny_mono (ht.run [] s1 (start N vs) H _ I hq) (fun fl s' hs => ?_) fun e s' hs => hs
  have fin : ∀ {σ' : L2.St} {H' : Hp} {v : V} {u : Value}, Inv (cxOf CX0 P w K mg base N qual scope f cdv A outer s H E) [] σ' H' s' → RelV v u → Q v H' → CE outer P w H s Q u s' :=
    fun {σ' H' v u} J rv q => ⟨v, H', J.os, J.bare, J.base, J.hok, rv, q⟩
  cases fl with
  | ret u =>
    obtain ⟨v, σ', H', J, rv, q⟩ := hs
    exact fin J rv q
  | next =>
    obtain ⟨σ', H', J, q⟩ := hs
    exact fin (v := V.non) (u := Value.none) J rfl q
  | brk =>
    obtain ⟨_, _, _, q⟩ := hs
    exact False.elim q
  | cont =>
    obtain ⟨_, _, _, q⟩ := hs
    exact False.elim q
/-- THE RULE for a def of the text -/
theorem okG {x qual : Str} {st : Stmt} {fd : FuncData} {N ps : List Str} {sp : Sp} (F : Fun K x qual st f fd) (S : FnScope N ps (defScope st)) (len : ∀ vs H Q E, sp vs H Q E → vs.length = ps.length)
    (hbody : ∀ (cdv : Value) (A : Around) (outer : List Env) (s : Shared) (H : Hp) (vs : List V) (Q : VK) (E : XK), Room k (A.deeper (envOfC qual (defScope st) s.heap.objs.size f cdv)) → (A.deeper (envOfC qual (defScope st) s.heap.objs.size f cdv)).guards = some [] → sp vs H Q E →
      ∃ t, PSs (cxOf CX0 P w K mg base N qual (defScope st) f cdv A outer s H E).nox (defBody st) t ∧ t { nx := fun _ H' => Q .non H', rt := Q } (start N vs) H) : FnG P w K mg base (k + 1) f fd ps sp := by
  obtain ⟨oc, od, kV, doc, pm, an, cdv, ct, osl, rfl, lk, hcd⟩ := F.ex
  refine fnG_of lk hcd S len fun A outer s H vs Q E hr hgd hsp => ?_
  obtain ⟨t, h, q⟩ := hbody cdv A outer s H vs Q E hr hgd hsp
  exact ⟨t, h.nox, q⟩
end
/-- a def of the module, called by its name -/
structure CalG (P : Program) (w : World) (K : PySem.W.Frag) (mg : Str → Option Value) (base : Heap) (k : Nat) (x : Str) (sp : Sp) : Prop where
  ex : ∃ (f : Addr) (fd : FuncData) (ps : List Str), FnG P w K mg base k f fd ps sp ∧ mg x = some (.ref f) ∧ PySem.W.keepIn K (.ref f) = true ∧ Binds K fd ps []
section
variable {X : Cx} {k j : Nat} {x : Str} {sp : Sp} {p pos : Pos} {e : Expr} {es : List Expr} {t : TA}
theorem run_fnG {f : Addr} {fd : FuncData} {ps : List Str} {pins : List (Addr × Obj)} {σ : L2.St} {H : Hp} {s : Shared} {Q : VK} {us : List Value} {vs : List V} (F : FnG X.prog X.w X.K X.mg X.base k f fd ps sp) (hr : Room k X.A) (hgd : X.A.guards = some []) (hb : Binds X.K fd ps [])
    (I : Inv X pins σ H s) (r : Vals vs us) (h : sp vs H Q E0) : wpAny (model X.prog X.w) X.A (call (.ref f) us) (EP X pins σ Q) X.xe s := by
  have hl : (us ++ []).length = ps.length := by rw [List.append_nil, ← r.length]; exact F.len _ _ _ _ h
  have hb' := hb s us I.kIn hl
  rw [List.append_nil] at hb'
  refine wpAny_call (codeAny_mono (F.run X.A X.stack s H ⟨us, []⟩ us vs Q E0 hr hgd I.env0 hb' r h) fun r s' hq => ?_)
  cases r with
  | error e => exact False.elim hq
  | ok fl =>
    cases fl with
    | ret u => exact I.after hq
    | next => exact False.elim hq
    | brk => exact False.elim hq
    | cont => exact False.elim hq
def tCallG (sp : Sp) (t : TA) : TE := fun σ H Q => t σ H fun vs H1 => sp vs H1 Q E0
theorem pe_cG (c : CalG X.prog X.w X.K X.mg X.base k x sp) (hr : Room j X.A) (hk : k ≤ j) (hgd : X.A.guards = some []) (hg : Gl X x) (ha : PA X (e :: es) t)
    (hdb : (x == ("__debug__" : Str)) = false := by decide) (he : starEach (e :: es) X.env = (false, eval e X.env) :: starEach es X.env := by rfl) (hpl : (backTo pos (starEach es X.env)).any (·.1) = false := by rfl) :
    PE X (.Call (.Name x p) (e :: es) [] pos) (tCallG sp t) := by
  obtain ⟨f, fd, ps, F, hm, kp, b⟩ := c.ex
  refine ⟨fun pins s σ H Q I h => ?_⟩
  refine wpAny_Call_Name_kw (ld_glob I hg hm ?_ hdb)
  refine PySem.W.callWith_K (h₀ := X.base) I.ok.mod.kin kp (thn (ha.run pos pins s σ H _ I h) fun us s1 ⟨vs, H1, I1, r, q⟩ => ⟨I1.kIn, ?_⟩) he hpl
  exact run_fnG F (hr.mono hk) hgd b I1 r q

/-- a def of the module whose promise hangs on nothing that is shown -/
structure CalO (P : Program) (w : World) (K : PySem.W.Frag) (mg : Str → Option Value) (base : Heap) (k : Nat) (x : Str) (sp : Sp) : Prop where
  ex : ∃ (f : Addr) (fd : FuncData) (ps : List Str), FnOk P w K mg base CX0 k f fd ps sp ∧ mg x = some (.ref f) ∧ PySem.W.keepIn K (.ref f) = true ∧ Binds K fd ps []
theorem pe_cO (c : CalO X.prog X.w X.K X.mg X.base k x sp) (hr : Room j X.A) (hk : k ≤ j) (hg : Gl X x) (ha : PA X (e :: es) t)
    (hdb : (x == ("__debug__" : Str)) = false := by decide) (he : starEach (e :: es) X.env = (false, eval e X.env) :: starEach es X.env := by rfl) (hpl : (backTo pos (starEach es X.env)).any (·.1) = false := by rfl) :
    PE X (.Call (.Name x p) (e :: es) [] pos) (tCallG sp t) := by
  obtain ⟨f, fd, ps, F, hm, kp, b⟩ := c.ex
  have z := pe_call (pos := pos) (p := p) F (hr.mono hk) hg hm kp b .nil pass0 ha hdb he hpl
  have et : tCall sp [] E0 t = tCallG sp t := by
    funext σ H Q
    show t σ H _ = t σ H _
    congr 1
    funext vs H1
    rw [List.append_nil]
  rw [← et]
  exact z

/-! ### repr of data -/
theorem call_reprD (hgd : X.A.guards = some []) (hu : X.A.units + 64 < cLine) :
    CallR X (.builtin "repr") (fun xs H Q => ∃ a d, xs = [.ref a] ∧ Dp X.K H (.ref a) d ∧ d.showable = true ∧ d.hasDict = false ∧ d.depth ≤ 60 ∧ d.shown.length ≤ sizeLine ∧ Q (.str d.shown) H) := by
  intro pins s σ H xs us Q I r h
  obtain ⟨a, d, rfl, hd, hs, hnd, hdp, hsz, q⟩ := h
  obtain ⟨u, rfl, ru⟩ := vals1 r
  obtain rfl : u = Value.ref a := ru
  obtain ⟨as, rd⟩ := Dp.reads I d _ _ hd rfl
  refine repr_of_reads' (h₀ := s.heap) rd hs (fun z => by rw [hnd] at z; cases z) hgd (by omega) (fun b o e => e) (fun h' u tk hk => ⟨.str d.shown, H, I.kept (t' := tk) hk, ⟨_, rfl⟩, q⟩) hsz
end
end Pg

/-! Pf: what is known for good (G) within what stands now (H). -/
namespace Pf
open PySem PySem.Spec PyProof.Rows L2 Pg

theorem upd_none_ne {H : Hp} {a b : Addr} {o : HO} (h : b ≠ a) (e : H b = none) : upd H a o b = none := by rw [upd_ne h]; exact e
theorem Same.new {H : Hp} {p : Addr} {o : HO} (h : H p = none) : Same H (upd H p o) := fun a u e => by
  rw [upd_ne (ne_of_none e h)]
  exact e
/-- from (G, H) to (G', H'): nothing that stood has changed; what G' knows anew is new -/
structure Fut (G H G' H' : Hp) : Prop where
  g : Same G G'
  h : Same H H'
  s : Same G' H'
  n : ∀ p, G' p ≠ none → G p ≠ none ∨ H p = none
/-- .. but for what stands at m and q -/
structure FutM (m q : Addr) (G H G' H' : Hp) : Prop where
  g : Same G G'
  h : ∀ p o, H p = some o → p ≠ m → p ≠ q → H' p = some o
  s : Same G' H'
  n : ∀ p, G' p ≠ none → G p ≠ none ∨ H p = none
  k : ∀ p, H' p = none → H p = none
theorem Fut.refl {G H : Hp} (s : Same G H) : Fut G H G H := ⟨Same.refl _, Same.refl _, s, fun _ h => .inl h⟩
theorem Fut.trans {G H G1 H1 G2 H2 : Hp} (a : Fut G H G1 H1) (b : Fut G1 H1 G2 H2) : Fut G H G2 H2 :=
  ⟨a.g.trans b.g, a.h.trans b.h, b.s, fun p h => (b.n p h).elim (a.n p) fun z => .inr (a.h.free z)⟩
/-- a new object, known from now on -/
theorem Fut.new {G H : Hp} {p : Addr} {o : HO} (s : Same G H) (h : H p = none) : Fut G H (upd G p o) (upd H p o) :=
  ⟨Same.new (s.free h), Same.new h, fun b u e => by
    by_cases q : b = p
    · rw [q, upd_same] at e ⊢
      exact e
    · rw [upd_ne q] at e ⊢
      exact s _ _ e, fun b e => by
    by_cases q : b = p
    · exact .inr (q ▸ h)
    · rw [upd_ne q] at e
      exact .inl e⟩
/-- H grew, G as it was -/
theorem Fut.up {G H H' : Hp} (s : Same G H) (h : Same H H') : Fut G H G H' := ⟨Same.refl _, h, s.trans h, fun _ e => .inl e⟩
theorem Fut.m {m q : Addr} {G H G' H' : Hp} (a : Fut G H G' H') : FutM m q G H G' H' := ⟨a.g, fun p o e _ _ => a.h p o e, a.s, a.n, fun p e => a.h.free e⟩
theorem FutM.trans {m q : Addr} {G H G1 H1 G2 H2 : Hp} (a : FutM m q G H G1 H1) (b : FutM m q G1 H1 G2 H2) : FutM m q G H G2 H2 :=
  ⟨a.g.trans b.g, fun p o e h1 h2 => b.h p o (a.h p o e h1 h2) h1 h2, b.s, fun p h => (b.n p h).elim (a.n p) fun z => .inr (a.k p z), fun p e => a.k p (b.k p e)⟩
theorem FutM.refl {m q : Addr} {G H : Hp} (s : Same G H) : FutM m q G H G H := (Fut.refl s).m
/-- the object at l, not known for good, changes -/
theorem Fut.mut {G H : Hp} {l : Addr} {o : HO} (s : Same G H) (hl : G l = none) : Same G (upd H l o) := fun b u e => by
  rw [upd_ne (ne_of_none e hl)]
  exact s _ _ e

mutual
theorem Dp.mono {K : PySem.W.Frag} {H H' : Hp} (e : Same H H') : ∀ (d : PyData) (v : V), Dp K H v d → Dp K H' v d
  | .none, _, h => by cases h; exact .non
  | .bool _, _, h => by cases h; exact .bl _
  | .int _, _, h => by cases h; exact .int _
  | .str _, _, h => by cases h; exact .str _
  | .list ds, _, h => by
    cases h with
    | lst a b => exact .lst (Same.seq e a) (DpAll.mono e ds _ b)
  | .tuple ds, _, h => by
    cases h with
    | tup a b => exact .tup (Evl.ex_t e a) (DpAll.mono e ds _ b)
  | .dict _, _, h => by cases h
theorem DpAll.mono {K : PySem.W.Frag} {H H' : Hp} (e : Same H H') : ∀ (ds : List PyData) (vs : List V), DpAll K H vs ds → DpAll K H' vs ds
  | [], _, h => by cases h; exact .nil
  | d :: ds, _, h => by
    cases h with
    | cons a b => exact .cons (Dp.mono e d _ a) (DpAll.mono e ds _ b)
end
theorem DpAll.ints {K : PySem.W.Frag} {H : Hp} : ∀ (ns : List Int), DpAll K H (ns.map V.int) (ns.map PyData.int)
  | [] => .nil
  | n :: ns => .cons (.int n) (DpAll.ints ns)
theorem DpAll.len {K : PySem.W.Frag} {H : Hp} : ∀ {vs : List V} {ds : List PyData}, DpAll K H vs ds → vs.length = ds.length
  | _, _, .nil => rfl
  | _, _, .cons _ b => by rw [List.length_cons, List.length_cons, DpAll.len b]
theorem DpAll.at {K : PySem.W.Frag} {H : Hp} : ∀ {vs : List V} {ds : List PyData} {i : Nat} {d : PyData}, DpAll K H vs ds → ds[i]? = some d → ∃ v, vs[i]? = some v ∧ Dp K H v d
  | _, _, 0, d, .cons a b, h => ⟨_, rfl, by
    have e := Option.some.inj h
    rw [← e]
    exact a⟩
  | _, _, i + 1, d, .cons a b, h => DpAll.at (i := i) b h
  | _, _, i, d, .nil, h => by simp at h
theorem DpAll.at' {K : PySem.W.Frag} {H : Hp} : ∀ {vs : List V} {ds : List PyData} {i : Nat} {v : V}, DpAll K H vs ds → vs[i]? = some v → ∃ d, ds[i]? = some d ∧ Dp K H v d
  | _, _, 0, d, .cons a b, h => ⟨_, rfl, by
    have e := Option.some.inj h
    rw [← e]
    exact a⟩
  | _, _, i + 1, d, .cons a b, h => DpAll.at' (i := i) b h
  | _, _, i, d, .nil, h => by simp at h
theorem DpAll.snoc {K : PySem.W.Frag} {H : Hp} : ∀ {vs : List V} {ds : List PyData} {v : V} {d : PyData}, DpAll K H vs ds → Dp K H v d → DpAll K H (vs ++ [v]) (ds ++ [d])
  | _, _, _, _, .nil, h => .cons h .nil
  | _, _, _, _, .cons a b, h => .cons a (DpAll.snoc b h)
theorem DpAll.app {K : PySem.W.Frag} {H : Hp} : ∀ {vs ws : List V} {ds es : List PyData}, DpAll K H vs ds → DpAll K H ws es → DpAll K H (vs ++ ws) (ds ++ es)
  | _, _, _, _, .nil, h => h
  | _, _, _, _, .cons a b, h => .cons a (DpAll.app b h)

/-! ### the state from which all numbers are drawn -/
abbrev kc : Key := Sum.inr ("cells" : Str)
abbrev kg : Key := Sum.inr ("great" : Str)
abbrev ks : Key := Sum.inr ("spot" : Str)
structure MAt (G H : Hp) (m c q : Addr) (b : Nat) : Prop where
  s : Same G H
  gm : G m = none
  gc : G c = none
  gq : G q = none
  ob : ∃ n : Int, H m = some (.dK [(kc, .ref c), (kg, .ref q), (ks, .int n)]) ∧ 0 ≤ n ∧ n ≤ b
  cs : ∃ cs : List Int, H c = some (.lst (cs.map V.int)) ∧ cs.length = 64
  gs : ∃ gs : List Int, H q = some (.lst (gs.map V.int)) ∧ gs.length ≤ 63
  cq : c ≠ q
theorem MAt.mono {G H : Hp} {m c q : Addr} {b b' : Nat} (M : MAt G H m c q b) (h : b ≤ b') : MAt G H m c q b' :=
  ⟨M.s, M.gm, M.gc, M.gq, let ⟨n, a, h0, h1⟩ := M.ob; ⟨n, a, h0, by omega⟩, M.cs, M.gs, M.cq⟩
theorem MAt.fut {G H G' H' : Hp} {m c q : Addr} {b : Nat} (M : MAt G H m c q b) (f : Fut G H G' H') : MAt G' H' m c q b := by
  obtain ⟨n, a, h0, h1⟩ := M.ob
  obtain ⟨cs, b1, b2⟩ := M.cs
  obtain ⟨gs, c1, c2⟩ := M.gs
  have no : ∀ p o, G p = none → H p = some o → G' p = none := fun p o e1 e2 => by
    cases e : G' p with
    | none => rfl
    | some z =>
      rcases f.n p (by rw [e]; simp) with x | x
      · exact absurd e1 x
      · rw [e2] at x
        cases x
  exact ⟨f.s, no _ _ M.gm a, no _ _ M.gc b1, no _ _ M.gq c1, ⟨n, f.h _ _ a, h0, h1⟩, ⟨cs, f.h _ _ b1, b2⟩, ⟨gs, f.h _ _ c1, c2⟩, M.cq⟩
end Pf

/-! Rul: further rules. -/
namespace Rul
open PySem PySem.Spec PyProof.Rows L2
theorem tup_mul1 (l : Addr) (items : Array Value) (n : Nat) (dd : Option Addr) (sl : Array (Option Value)) (u : Tok) (c1 : (items.isEmpty || (1 : Int) == 1) = true) :
    Meets (Builtin.«tuple.__mul__» ⟨[.ref l, .int 1 u], []⟩) (fun _ R s => s.heap.get? l = some { cls := .type "tuple", dict := dd, data := .seq items n, slots := sl } ∧ R (.ok (.ret (Value.ref l))) s) :=
  .of_wp fun prog w A R s h => by
    obtain ⟨hp, g, d, tk, os⟩ := s
    obtain ⟨hl, h⟩ := h
    have f1 := AutoSeq1.idx_int
    wp_walk using wpAny_loadPart' hl
    exact ⟨_, rfl, h⟩
def rRepA (K : PySem.W.Frag) : R2 := fun x y H Q => ∃ l k xs, x = .ref l ∧ y = .int k ∧ SqT K H l xs ∧ xs ≠ [] ∧ 1 ≤ k ∧ k ≤ 1000 ∧ xs.length ≤ 1000 ∧ (k = 1 → Q (.ref l) H) ∧ (k ≠ 1 → ∀ p, H p = none → Q (.ref p) (upd H p (.tup (List.replicate k.toNat xs).flatten)))
section
variable {X : Cx}
theorem op_rep1 : OpR X (binaryOp .Mult) (fun x y H Q => ∃ l xs, x = .ref l ∧ y = .int 1 ∧ SqT X.K H l xs ∧ Q (.ref l) H) := by
  intro pins s σ H x y v u Q I rx ry h
  obtain ⟨l, xs, rfl, rfl, hT, q⟩ := h
  cases rx
  obtain ⟨t, rfl⟩ := ry
  obtain ⟨its, r, ⟨⟨cls, dd, data, sl⟩, ho, hc, n, hd⟩, hs⟩ := I.tuple hT
  simp only at hc hd
  subst hc hd
  have c1 : (its.toArray.isEmpty || (1 : Int) == 1) = true := by
    rw [show ((1 : Int) == 1) = true from rfl, Bool.or_true]
  exact wpAny_binaryOp_repeat_ref (T := "tuple") (U := "int") (by decide) ⟨_, ho, rfl⟩ (fun s' => typeIs_int s' 1 t) noFill_tuple_mul F.fills_int_mul F.slot_int_rmul repeat_tuple F.slot_int_index.lookup
    (call_meets F.slot_int_rmul (typeIs_int s 1 t) F.entry_int_rmul (F.args_int_rmul_2 _ _) (int_rmul_tuple 1 t l its.toArray n dd sl)
      ⟨ho, rfl, ⟨_, ho, rfl⟩, call_meets F.slot_tuple_mul ⟨_, ho, rfl⟩ F.entry_tuple_mul (F.args_tuple_mul_2 _ _) (tup_mul1 l its.toArray n dd sl t c1) ⟨ho, ⟨.ref l, H, I, rfl, q⟩⟩⟩)
theorem op_repA : OpR X (binaryOp .Mult) (rRepA X.K) := by
  intro pins s σ H x y v u Q I rx ry h
  obtain ⟨l, k, xs, rfl, rfl, hT, hne, h1, h2, hz, q1, q2⟩ := h
  by_cases e : k = 1
  · subst e
    exact op_rep1 pins s σ H _ _ v u Q I rx ry ⟨l, xs, rfl, rfl, hT, q1 rfl⟩
  · exact op_repT pins s σ H _ _ v u Q I rx ry ⟨l, k, xs, rfl, rfl, hT, hne, by omega, h2, hz, q2 e⟩
end
end Rul

namespace W2
open PySem PySem.Spec PyProof.Rows L2 Pg Pf
def top (i : Nat) : Stmt := PySem.Challenge.pw_passplaces_k03_places_changed.main.body.getD i (.Pass ⟨0, 0, 0, 0⟩)
abbrev s__law_mixed : Stmt := top 17
abbrev N__law_mixed : List Str := ["_law_cell", "_law_n", "_law_turned_here"]
theorem sc__law_mixed : FnScope N__law_mixed ["_law_cell", "_law_n"] (defScope s__law_mixed) := ⟨rfl, rfl, rfl, by decide +kernel, rfl, by decide +kernel, by decide +kernel⟩
abbrev s__law_folded : Stmt := top 18
abbrev N__law_folded : List Str := ["_law_script", "_law_n", "_law_found", "_law_cell"]
theorem sc__law_folded : FnScope N__law_folded ["_law_script"] (defScope s__law_folded) := ⟨rfl, rfl, rfl, by decide +kernel, rfl, by decide +kernel, by decide +kernel⟩
/-- the built-in names that the text reads -/
structure Bt (mg : Str → Option Value) : Prop where
  range : mg "range" = none
  enumerate : mg "enumerate" = none
  len : mg "len" = none
  tuple : mg "tuple" = none
  max : mg "max" = none
  min : mg "min" = none
  repr : mg "repr" = none
  zip : mg "zip" = none
section
variable {P : Program} {w : World} {K : PySem.W.Frag} {mg : Str → Option Value} {base : Heap} {f : Addr} {fd : FuncData}
def spMixed : Sp := fun vs H Q _ => ∃ c n : Int, vs = [.int c, .int n] ∧ 0 ≤ n ∧ n < 2 ^ 60 ∧ ∀ r, Q (.int r) H
theorem ok_mixed (F : Fun K "_law_mixed" "_law_mixed" s__law_mixed f fd) : FnG P w K mg base 2 f fd ["_law_cell", "_law_n"] spMixed := by
  refine okG F sc__law_mixed (fun vs H Q E h => ?_) (fun cdv A outer s H vs Q E hr hgd h => ?_)
  · obtain ⟨c, n, rfl, _⟩ := h
    rfl
  · obtain ⟨c, n, rfl, h0, h1, k⟩ := h
    have nd := sc__law_mixed.nd
    refine ⟨_, (pss_cons (ps_set (i := 2) nd rfl (Or.inl rfl) (pe_op op_add (pe_op op_add (pe_op op_mod (pe_op op_mul (pe_op op_mul (pv 0) (pe_op op_add pe_int (pe_op op_mul pe_int (pv 1)))) pe_int) pe_int) (pe_op op_mul (pe_op op_mul pe_int (pv 1)) (pv 1))) (pe_op op_mul pe_int (pv 1))))
    (pss_one (ps_ret (pe_op op_fdiv (pe_op op_mod (pe_op op_mul (pv 2) pe_int) pe_int) pe_int)))), ?_⟩
    refine ⟨_, rfl, _, rfl, _, _, rfl, rfl, .inl (by decide), _, _, rfl, rfl, _, _, rfl, rfl, .inr (by constructor <;> omega), _, _, rfl, rfl, .inr (by decide), _, _, rfl, rfl, (by show (0 : Int) < 2147483647; decide), ?_⟩
    refine ⟨_, rfl, _, _, rfl, rfl, .inl (by decide), _, rfl, _, _, rfl, rfl, .inr (by constructor <;> omega), _, _, rfl, rfl, _, rfl, _, _, rfl, rfl, .inl (by decide), _, _, rfl, rfl, ?_⟩
    refine ⟨_, rfl, _, _, rfl, rfl, .inr (by decide), _, _, rfl, rfl, (by show (0 : Int) < 2147483629; decide), _, _, rfl, rfl, ⟨by decide, by decide⟩, k _⟩
def spFolded (K : PySem.W.Frag) : Sp := fun vs H Q _ => ∃ (a : Addr) (ns : List Int), vs = [.ref a] ∧ SqL K H a (ns.map V.int) ∧ ns.length ≤ 63 ∧
  ∀ (l : Addr) (cs : List Int) (H' : Hp), H l = none → Same H H' → H' l = some (.lst (cs.map V.int)) → cs.length = 64 → Q (.ref l) H'
theorem ok_folded (T : Bt mg) (F : Fun K "_law_folded" "_law_folded" s__law_folded f fd) : FnG P w K mg base 2 f fd ["_law_script"] (spFolded K) := by
  refine okG F sc__law_folded (fun vs H Q E h => ?_) (fun cdv A outer s H vs Q E hr hgd h => ?_)
  · obtain ⟨a, ns, rfl, _⟩ := h
    rfl
  · obtain ⟨a, ns, rfl, hS, hl, k⟩ := h
    have nd := sc__law_folded.nd
    refine ⟨_, (pss_cons (ps_setLc (i := 2) (own := [("_law_n", 1)]) rfl nd rfl rfl (sw_true rfl rfl rfl (by decide +kernel)) (pi_range1 rfl T.range (pa_cons pe_int pa_nil)) (blkOk_by (N := N__law_folded) (sc := defScope s__law_folded) (by decide +kernel)) (fun _ _ _ _ _ => (pg_name (i := 1) nd rfl (Or.inl rfl))) (fun _ _ _ _ _ => pts_nil) (fun _ _ _ _ _ => (pe_op op_add pe_int (pv 1))))
    (pss_cons (ps_for PassesOwn.never rfl (pi_enum (by rfl) T.enumerate (pa_cons (pv 0) pa_nil)) (pg_tup rfl (pgs_cons (pg_name (i := 1) nd rfl (Or.inl rfl)) (pgs_cons (pg_name (i := 3) nd rfl (Or.inl rfl)) pgs_nil)))
    (pss_one (ps_asg (pe_op op_mod (pe_op op_add (pe_op op_mul (pe_ix ix_list (pv 2) (pe_op op_mod (pv 1) pe_int) (fun _ _ => rfl)) pe_int) (pv 3)) pe_int) (pg_sub (pv 2) (pe_op op_mod (pv 1) pe_int) set_list))))
    (pss_cons (ps_for PassesOwn.never rfl (pi_range2 rfl T.range (pa_cons pe_int (pa_cons pe_int pa_nil))) (pg_name (i := 1) nd rfl (Or.inl rfl))
    (pss_one (ps_asg (pe_op op_mod (pe_op op_add (pe_ix ix_list (pv 2) (pv 1) (fun _ _ => rfl)) (pe_op op_mul (pe_ix ix_list (pv 2) (pe_op op_sub (pv 1) pe_int) (fun _ _ => rfl)) pe_int)) pe_int) (pg_sub (pv 2) (pv 1) set_list))))
    (pss_one (ps_ret (pv 2)))))), ?_⟩
    refine ⟨64, rfl, by decide, by decide, fun D hD => lc_range (lo := 0) (n := 64) (fun i H2 => ∃ acc : List Int, H2 D = some (.lst (acc.map V.int)) ∧ acc.length = i ∧ Same H H2) ⟨[], upd_same, rfl, Same.new hD⟩ ?_ ?_⟩
    · rintro i H2 hi ⟨acc, hA, ha, hs⟩
      refine ⟨rfl, ?_⟩
      refine ⟨_, rfl, _, _, rfl, rfl, _, hA, small1000 (by rw [List.length_map]; omega), acc ++ [17 + (0 + (i : Int))], ?_, by rw [List.length_append, ha] <;> rfl, Fut.mut hs hD⟩
      rw [upd_same, List.map_append]
      rfl
    · rintro H2 ⟨acc, hA, ha, hs⟩
      refine ⟨_, rfl, a, ns.map V.int, rfl, hs.seq hS, for_it walk_enum (fun i σ H3 => ∃ (cs : List Int) (v1 v3 : Option V), σ = [some (.ref a), v1, some (.ref D), v3] ∧ H3 D = some (.lst (cs.map V.int)) ∧ cs.length = 64 ∧ Same H H3)
        ⟨acc, none, none, rfl, hA, ha, hs⟩ (fun i σ H3 _ ⟨_, _, _, _, _, _, s3⟩ => s3.seq hS) ?_ ?_⟩
      · rintro i x σ H3 H4 hi ⟨cs, v1, v3, rfl, hC, hc, s3⟩ ⟨T', x1, y1, rfl, hT, rfl, e1, e2⟩
        obtain rfl := Option.some.inj e1
        replace e2 : (ns.map V.int)[i]? = some y1 := e2
        rw [List.getElem?_map] at e2
        obtain ⟨z, hz, rfl⟩ : ∃ z, ns[i]? = some z ∧ y1 = V.int z := by
          cases e : ns[i]? with
          | none =>
            rw [e] at e2
            cases e2
          | some z =>
            rw [e] at e2
            exact ⟨z, rfl, (Option.some.inj e2).symm⟩
        have hD4 : (upd H3 T' (.tup [V.int (i : Nat), V.int z])) D = some (.lst (cs.map V.int)) := by
          rw [upd_ne (ne_of_none hC hT)]
          exact hC
        have hi64 : i % 64 < cs.length := by omega
        obtain ⟨c0, hc0⟩ : ∃ c0, cs[i % 64]? = some c0 := ⟨_, List.getElem?_eq_getElem hi64⟩
        refine ⟨T', _, rfl, SqT.of upd_same, rfl, _, _, rfl, _, _, rfl, rfl, ?_⟩
        refine ⟨_, rfl, _, rfl, _, _, rfl, rfl, (by show (0 : Int) < 64; decide), D, _, _, V.int c0, rfl, rfl, SqL.of hD4, at_of (j := i % 64) (by omega) (by rw [List.getElem?_map, hc0] <;> rfl), _, _, rfl, rfl, .inr (by decide), _, rfl, _, _, rfl, rfl, _, _, rfl, rfl, (by show (0 : Int) < 2147483647; decide), ?_⟩
        refine ⟨_, rfl, _, rfl, _, _, rfl, rfl, (by show (0 : Int) < 64; decide), D, _, _, i % 64, rfl, rfl, hD4, ?_, ?_⟩
        · unfold ixN
          rw [if_pos (by omega), if_pos (by rw [List.length_map]; omega)]
          exact congrArg some (by omega)
        · refine ⟨cs.set (i % 64) ((c0 * 48271 + z) % 2147483647), _, _, rfl, ?_, by rw [List.length_set]; exact hc, ?_⟩
          · rw [upd_same, List.map_set]
          · exact Fut.mut (s3.trans (Same.new hT)) hD
      · rintro σ H3 ⟨cs, v1, v3, rfl, hC, hc, s3⟩
        refine ⟨1, 64, rfl, by decide, for_range (lo := 1) (n := 63) (fun i σ H4 => ∃ (cs : List Int) (v1 v3 : Option V), σ = [some (.ref a), v1, some (.ref D), v3] ∧ H4 D = some (.lst (cs.map V.int)) ∧ cs.length = 64 ∧ Same H H4) ⟨cs, v1, v3, rfl, hC, hc, s3⟩ ?_ ?_⟩
        · rintro i σ H4 hi ⟨cs, v1, v3, rfl, hC, hc, s4⟩
          obtain ⟨c1, hc1⟩ : ∃ c1, cs[i + 1]? = some c1 := ⟨_, List.getElem?_eq_getElem (by omega)⟩
          obtain ⟨c0, hc0⟩ : ∃ c0, cs[i]? = some c0 := ⟨_, List.getElem?_eq_getElem (by omega)⟩
          refine ⟨_, rfl, _, rfl, D, _, _, V.int c1, rfl, rfl, SqL.of hC, at_of (j := i + 1) (by omega) (by rw [List.getElem?_map, hc1] <;> rfl), _, rfl, _, rfl, _, _, rfl, rfl, D, _, _, V.int c0, rfl, rfl, SqL.of hC, at_of (j := i) (by omega) (by rw [List.getElem?_map, hc0] <;> rfl),
            _, _, rfl, rfl, .inr (by decide), _, _, rfl, rfl, _, _, rfl, rfl, (by show (0 : Int) < 2147483647; decide), ?_⟩
          refine ⟨_, rfl, _, rfl, D, _, _, i + 1, rfl, rfl, hC, ?_, ?_⟩
          · unfold ixN
            rw [if_pos (by omega), if_pos (by rw [List.length_map]; omega)]
            exact congrArg some (by omega)
          · refine ⟨cs.set (i + 1) ((c1 + c0 * 16807) % 2147483647), _, _, rfl, ?_, by rw [List.length_set]; exact hc, Fut.mut s4 hD⟩
            rw [upd_same, List.map_set]
        · rintro σ H4 ⟨cs, v1, v3, rfl, hC, hc, s4⟩
          exact ⟨_, rfl, k D cs H4 hD s4 hC hc⟩
theorem kcs : ¬ kc = ks := by decide
theorem kgs : ¬ kg = ks := by decide
theorem kcg : ¬ kc = kg := by decide
theorem ksg : ¬ ks = kg := by decide
theorem val_spot (c q : Addr) (n : V) : valV ([(kc, .ref c), (kg, .ref q), (ks, n)] : List (Key × V)) ks = some n := by
  rw [valV_neg kcs, valV_neg kgs, valV_pos rfl]
theorem val_great (c q : Addr) (n : V) : valV ([(kc, .ref c), (kg, .ref q), (ks, n)] : List (Key × V)) kg = some (.ref q) := by
  rw [valV_neg kcg, valV_pos rfl]
theorem val_cells (c q : Addr) (n : V) : valV ([(kc, .ref c), (kg, .ref q), (ks, n)] : List (Key × V)) kc = some (.ref c) := by
  rw [valV_pos rfl]
theorem put_spot (c q : Addr) (n z : V) : putK ([(kc, .ref c), (kg, .ref q), (ks, n)] : List (Key × V)) ks z = [(kc, .ref c), (kg, .ref q), (ks, z)] := by
  have e : (([(kc, .ref c), (kg, .ref q), (ks, n)] : List (Key × V)).any fun kv => decide (kv.1 = ks)) = true := by
    rw [valV_any, val_spot]
    rfl
  unfold putK
  rw [if_pos e]
  simp only [List.map_cons, List.map_nil, if_neg kcs, if_neg kgs, if_pos]
theorem put_great (c q : Addr) (n z : V) : putK ([(kc, .ref c), (kg, .ref q), (ks, n)] : List (Key × V)) kg z = [(kc, .ref c), (kg, z), (ks, n)] := by
  have e : (([(kc, .ref c), (kg, .ref q), (ks, n)] : List (Key × V)).any fun kv => decide (kv.1 = kg)) = true := by
    rw [valV_any, val_great]
    rfl
  unfold putK
  rw [if_pos e]
  simp only [List.map_cons, List.map_nil, if_neg kcg, if_neg ksg, if_pos]
theorem merge_m (c q : Addr) (n : V) : mergeK [] ([(kc, .ref c), (kg, .ref q), (ks, n)] : List (Key × V)) = [(kc, .ref c), (kg, .ref q), (ks, n)] := by
  have e1 : putK ([] : List (Key × V)) kc (.ref c) = [(kc, .ref c)] := putK_new _ rfl
  have e2 : putK ([(kc, .ref c)] : List (Key × V)) kg (.ref q) = [(kc, .ref c), (kg, .ref q)] := putK_new _ (by rw [valV_neg kcg]; rfl)
  have e3 : putK ([(kc, .ref c), (kg, .ref q)] : List (Key × V)) ks n = [(kc, .ref c), (kg, .ref q), (ks, n)] := putK_new _ (by rw [valV_neg kcs, valV_neg kgs]; rfl)
  show putK (putK (putK [] kc (.ref c)) kg (.ref q)) ks n = _
  rw [e1, e2, e3]
theorem dget {H : Hp} {a : Addr} {kvs : List (Key × V)} {k : Key} {v : V} (h : H a = some (.dK kvs)) (e : valV kvs k = some v) : DGet H a (kV k) (some v) := by
  have z := DGet.k (k := k) h
  rw [e] at z
  exact z
theorem eqv_nil (gs : List Int) : PyData.eqv (.list (gs.map PyData.int)) (.list []) = gs.isEmpty := by cases gs <;> rfl
theorem lay_ints : ∀ gs : List Int, PyData.canLayAll0 (gs.map PyData.int) = true
  | [] => rfl
  | g :: gs => by
    rw [List.map_cons]
    show (true && PyData.canLayAll0 (gs.map PyData.int)) = true
    rw [lay_ints gs]
    rfl
theorem depth_ints : ∀ gs : List Int, PyData.depthAll (gs.map PyData.int) = 0
  | [] => rfl
  | g :: gs => by
    rw [List.map_cons]
    show max 0 (PyData.depthAll (gs.map PyData.int)) = 0
    rw [depth_ints gs]
    rfl
theorem shaped_ints (gs : List Int) : SeqAt.shaped (.list (gs.map PyData.int)) = true := by
  show (PyData.canLayAll0 (gs.map PyData.int) && decide (PyData.depthAll (gs.map PyData.int) + 1 ≤ 64)) = true
  rw [lay_ints, depth_ints]
  rfl
/-- draw(m, top) -/
def spDraw : Sp := fun vs H Q _ => ∃ (G : Hp) (m c q : Addr) (b : Nat) (top : Int), vs = [.ref m, .int top] ∧ MAt G H m c q b ∧ b ≤ 1000000000 ∧ 1 ≤ top ∧ top ≤ 1000 ∧
  ∀ (r : Int) (H' : Hp), 0 ≤ r → r < top → FutM m q G H G H' → MAt G H' m c q (b + 1) → Q (.int r) H'
abbrev s__law_draw : Stmt := top 19
abbrev N__law_draw : List Str := ["_law_m", "_law_top", "_law_n", "_law_at", "_law_cell"]
theorem sc__law_draw : FnScope N__law_draw ["_law_m", "_law_top"] (defScope s__law_draw) := ⟨rfl, rfl, rfl, by decide +kernel, rfl, by decide +kernel, by decide +kernel⟩
section
variable {P : Program} {w : World} {K : PySem.W.Frag} {mg : Str → Option Value} {base : Heap} {f : Addr} {fd : FuncData}
theorem ok_draw (T : Bt mg) (cM : CalG P w K mg base 2 "_law_mixed" spMixed) (F : Fun K "_law_draw" "_law_draw" s__law_draw f fd) : FnG P w K mg base 3 f fd ["_law_m", "_law_top"] spDraw := by
  refine okG F sc__law_draw (fun vs H Q E h => ?_) (fun cdv A outer s H vs Q E hr hgd h => ?_)
  · obtain ⟨G, m, c, q, b, tp, rfl, _⟩ := h
    rfl
  · obtain ⟨G, m, c, q, b, tp, rfl, M, hb, ht1, ht2, k⟩ := h
    have nd := sc__law_draw.nd
    have hu := hu_of hr
    refine ⟨_, (pss_cons (ps_set (i := 2) nd rfl (Or.inl rfl) (pe_dget hu (pv 0) pe_str (fun _ _ => rfl)))
    (pss_cons (ps_dput hu (pv 0) pe_str (pe_op op_add (pv 2) pe_int) rfl)
    (pss_cons (ps_if (pt_cmpR (op_neD hr.units) (pe_dget hu (pv 0) pe_str (fun _ _ => rfl)) (pe_lst pa_nil) (nomark _)) (pss_cons (ps_set (i := 3) nd rfl (Or.inl rfl) (pe_op op_mod (pv 2) (pe_callB call_len_seq (by rfl) T.len PySem.boot_len (pa_cons (pe_dget hu (pv 0) pe_str (fun _ _ => rfl)) pa_nil))))
    (pss_cons (ps_set (i := 4) nd rfl (Or.inl rfl) (pe_ix ix_list (pe_dget hu (pv 0) pe_str (fun _ _ => rfl)) (pv 3) (fun _ _ => rfl)))
    (pss_one (ps_if (pt_cmpR op_gt (pv 4) pe_int (nomark _)) (pss_cons (ps_asg (pe_op op_fdiv (pv 4) (pv 1)) (pg_sub (pe_dget hu (pv 0) pe_str (fun _ _ => rfl)) (pv 3) set_list))
    (pss_one (ps_ret (pe_op op_mod (pv 4) (pv 1))))) pss_nil)))) pss_nil)
    (pss_one (ps_ret (pe_op op_mod (pe_cG cM hr (by decide) hgd rfl (pa_cons (pe_cG cM hr (by decide) hgd rfl (pa_cons (pe_op op_add (pe_ix ix_list (pe_dget hu (pv 0) pe_str (fun _ _ => rfl)) (pe_op op_mod (pv 2) pe_int) (fun _ _ => rfl)) (pe_op op_mul pe_int (pe_op op_fdiv (pv 2) pe_int))) (pa_cons (pv 2) pa_nil))) (pa_cons (pe_op op_add (pv 2) pe_int) pa_nil))) (pv 1))))))), ?_⟩
    obtain ⟨n, hm, hn0, hnb⟩ := M.ob
    obtain ⟨cs, hc, hcl⟩ := M.cs
    obtain ⟨gs, hg, hgl⟩ := M.gs
    have mc : c ≠ m := (ne_of hm hc (by intro z; cases z)).symm
    have mq : q ≠ m := (ne_of hm hg (by intro z; cases z)).symm
    refine ⟨_, rfl, m, _, rfl, dget (k := ks) hm (val_spot _ _ _), ?_⟩
    refine ⟨_, rfl, _, _, rfl, rfl, _, rfl, m, _, rfl, DPut.k (k := ks) hm (small1000 (by show 3 ≤ 1000; decide)), ?_⟩
    rw [put_spot]
    have M1 : MAt G (upd H m (.dK [(kc, .ref c), (kg, .ref q), (ks, .int (n + 1))])) m c q (b + 1) :=
      ⟨Fut.mut M.s M.gm, M.gm, M.gc, M.gq, ⟨n + 1, upd_same, by omega, by omega⟩, ⟨cs, by rw [upd_ne mc]; exact hc, hcl⟩, ⟨gs, by rw [upd_ne mq]; exact hg, hgl⟩, M.cq⟩
    have hm1 : (upd H m (.dK [(kc, .ref c), (kg, .ref q), (ks, .int (n + 1))])) m = some (.dK [(kc, .ref c), (kg, .ref q), (ks, .int (n + 1))]) := upd_same
    have hg1 : (upd H m (.dK [(kc, .ref c), (kg, .ref q), (ks, .int (n + 1))])) q = some (.lst (gs.map V.int)) := by rw [upd_ne mq]; exact hg
    have hc1 : (upd H m (.dK [(kc, .ref c), (kg, .ref q), (ks, .int (n + 1))])) c = some (.lst (cs.map V.int)) := by rw [upd_ne mc]; exact hc
    have F1 : FutM m q G H G (upd H m (.dK [(kc, .ref c), (kg, .ref q), (ks, .int (n + 1))])) :=
      ⟨Same.refl _, fun p o e h1 _ => by rw [upd_ne h1]; exact e, M1.s, fun p e => .inl e, fun p e => by
        by_cases z : p = m
        · rw [z, upd_same] at e
          cases e
        · rw [upd_ne z] at e
          exact e⟩
    show tSeq _ _ _ [some (.ref m), some (.int tp), some (.int n), none, none] (upd H m (.dK [(kc, .ref c), (kg, .ref q), (ks, .int (n + 1))]))
    generalize (upd H m (.dK [(kc, .ref c), (kg, .ref q), (ks, .int (n + 1))])) = H1 at M1 hm1 hg1 hc1 F1 ⊢
    refine ⟨_, rfl, m, _, rfl, dget (k := kg) hm1 (val_great _ _ _), (by show 0 ≤ sizeLine; decide), fun p hp => ⟨_, _, .lst (SqL.of (by rw [upd_ne (ne_of_none hg1 hp)]; exact hg1)) (DpAll.ints gs), .lst (SqL.of upd_same) .nil, shaped_ints gs, rfl, _, rfl, ?_⟩⟩
    have s2 : Same H1 (upd H1 p (.lst [])) := Same.new hp
    generalize (upd H1 p (.lst [])) = H2 at s2 ⊢
    have M2 := M1.fut (Fut.up M1.s s2)
    have F2 := F1.trans (Fut.up M1.s s2).m
    have hm2 := s2 _ _ hm1
    have hg2 := s2 _ _ hg1
    have hc2 := s2 _ _ hc1
    have hi : (n % 64).toNat < cs.length := by omega
    obtain ⟨c0, hc0⟩ : ∃ c0, cs[(n % 64).toNat]? = some c0 := ⟨_, List.getElem?_eq_getElem hi⟩
    rw [eqv_nil]
    cases gs with
    | nil =>
      refine iteF ?_
      refine ⟨_, rfl, m, _, rfl, dget (k := kc) hm2 (val_cells _ _ _), _, rfl, _, _, rfl, rfl, (by show (0 : Int) < 64; decide), c, _, _, V.int c0, rfl, rfl, SqL.of hc2, at_of (j := (n % 64).toNat) (by omega) (by rw [List.getElem?_map, hc0] <;> rfl), _, rfl, _, _, rfl, rfl, ⟨by decide, by decide⟩, _, _, rfl, rfl, .inl (by decide), _, _, rfl, rfl, _, rfl,
        _, _, rfl, hn0, by omega, fun r1 => ⟨_, rfl, _, _, rfl, rfl, _, _, rfl, by omega, by omega, fun r2 => ⟨_, rfl, _, _, rfl, rfl, (by show (0 : Int) < tp; omega), ?_⟩⟩⟩
      exact k _ _ (Int.emod_nonneg _ (by omega)) (Int.emod_lt_of_pos _ (by omega)) F2 M2
    | cons g0 gr =>
      refine iteT ?_
      have hpos : (0 : Int) < ((g0 :: gr).length : Nat) := by rw [List.length_cons]; omega
      have hlt := Int.emod_lt_of_pos n hpos
      have hge := Int.emod_nonneg n (Int.ne_of_gt hpos)
      generalize hgs : g0 :: gr = gs at hpos hlt hge hg2 hgl hg
      obtain ⟨g1, hg1'⟩ : ∃ g1, gs[(n % (gs.length : Nat)).toNat]? = some g1 := ⟨_, List.getElem?_eq_getElem (by omega)⟩
      refine ⟨_, rfl, _, rfl, m, _, rfl, dget (k := kg) hm2 (val_great _ _ _), q, _, rfl, .inl (SqL.of hg2), _, _, rfl, rfl, (by rw [List.length_map]; exact hpos), ?_⟩
      refine ⟨_, rfl, m, _, rfl, dget (k := kg) hm2 (val_great _ _ _), _, rfl, q, _, _, V.int g1, rfl, rfl, SqL.of hg2, at_of (j := (n % (gs.length : Nat)).toNat) (by rw [List.length_map]; omega) (by rw [List.getElem?_map, hg1'] <;> rfl), ?_⟩
      refine ⟨_, rfl, _, _, rfl, rfl, _, rfl, ?_⟩
      by_cases hpg : 0 < g1
      · rw [decide_eq_true hpg]
        refine iteT ?_
        refine ⟨_, rfl, _, rfl, _, _, rfl, rfl, ⟨by omega, by omega⟩, _, rfl, m, _, rfl, dget (k := kg) hm2 (val_great _ _ _), _, rfl, q, _, _, (n % (gs.length : Nat)).toNat, rfl, rfl, hg2, ?_, ?_⟩
        · unfold ixN
          rw [List.length_map, if_pos (by omega), if_pos (by omega)]
        · refine ⟨_, rfl, _, rfl, _, _, rfl, rfl, (by show (0 : Int) < tp; omega), ?_⟩
          have ncq : c ≠ q := M.cq
          have ek : (gs.map V.int).set (n % (gs.length : Nat)).toNat (V.int (g1 / tp)) = (gs.set (n % (gs.length : Nat)).toNat (g1 / tp)).map V.int := by rw [List.map_set]
          show Q (V.int (g1 % tp)) (upd H2 q (.lst ((gs.map V.int).set (n % (gs.length : Nat)).toNat (V.int (g1 / tp)))))
          rw [ek]
          have hqm : m ≠ q := mq.symm
          refine k _ _ (Int.emod_nonneg _ (by omega)) (Int.emod_lt_of_pos _ (by omega)) ?_ ?_
          · exact ⟨Same.refl _, fun p o e h1 h2 => by rw [upd_ne h2]; exact F2.h p o e h1 h2, Fut.mut M2.s M2.gq, fun p e => .inl e, fun p e => by
              by_cases z : p = q
              · rw [z, upd_same] at e
                cases e
              · rw [upd_ne z] at e
                exact F2.k p e⟩
          · obtain ⟨n2, a2, b2, d2⟩ := M2.ob
            exact ⟨Fut.mut M2.s M2.gq, M2.gm, M2.gc, M2.gq, ⟨n2, by rw [upd_ne hqm]; exact a2, b2, d2⟩, ⟨cs, by rw [upd_ne ncq]; exact hc2, hcl⟩, ⟨_, upd_same, by rw [List.length_set]; exact hgl⟩, ncq⟩
      · rw [decide_eq_false hpg]
        refine iteF ?_
        refine ⟨_, rfl, m, _, rfl, dget (k := kc) hm2 (val_cells _ _ _), _, rfl, _, _, rfl, rfl, (by show (0 : Int) < 64; decide), c, _, _, V.int c0, rfl, rfl, SqL.of hc2, at_of (j := (n % 64).toNat) (by omega) (by rw [List.getElem?_map, hc0] <;> rfl), _, rfl, _, _, rfl, rfl, ⟨by decide, by decide⟩, _, _, rfl, rfl, .inl (by decide), _, _, rfl, rfl, _, rfl,
          _, _, rfl, hn0, by omega, fun r1 => ⟨_, rfl, _, _, rfl, rfl, _, _, rfl, by omega, by omega, fun r2 => ⟨_, rfl, _, _, rfl, rfl, (by show (0 : Int) < tp; omega), ?_⟩⟩⟩
        exact k _ _ (Int.emod_nonneg _ (by omega)) (Int.emod_lt_of_pos _ (by omega)) F2 M2
end
/-- begun(script) -/
def spBegun (K : PySem.W.Frag) : Sp := fun vs H Q _ => ∃ (a : Addr) (ns : List Int), vs = [.ref a] ∧ SqL K H a (ns.map V.int) ∧ ns.length ≤ 63 ∧
  ∀ (m c q : Addr) (H' : Hp), Same H H' → MAt H H' m c q 0 → Q (.ref m) H'
abbrev s__law_begun : Stmt := top 20
abbrev N__law_begun : List Str := ["_law_script", "_law_m", "_law_cell"]
theorem sc__law_begun : FnScope N__law_begun ["_law_script"] (defScope s__law_begun) := ⟨rfl, rfl, rfl, by decide +kernel, rfl, by decide +kernel, by decide +kernel⟩
section
variable {P : Program} {w : World} {K : PySem.W.Frag} {mg : Str → Option Value} {base : Heap} {f : Addr} {fd : FuncData}
theorem ok_begun (T : Bt mg) (cF : CalG P w K mg base 2 "_law_folded" (spFolded K)) (F : Fun K "_law_begun" "_law_begun" s__law_begun f fd) : FnG P w K mg base 3 f fd ["_law_script"] (spBegun K) := by
  refine okG F sc__law_begun (fun vs H Q E h => ?_) (fun cdv A outer s H vs Q E hr hgd h => ?_)
  · obtain ⟨a, ns, rfl, _⟩ := h
    rfl
  · obtain ⟨a, ns, rfl, hS, hl, k⟩ := h
    have nd := sc__law_begun.nd
    have hu := hu_of hr
    refine ⟨_, (pss_cons (ps_set (i := 1) nd rfl (Or.inl rfl) (pe_disp (pps_cons pe_str (pe_cG cF hr (by decide) hgd rfl (pa_cons (pv 0) pa_nil)) (pps_cons pe_str (pe_lst pa_nil) (pps_cons pe_str pe_int pps_nil))) (by rfl) (by rfl) (fun z => by cases z) (by decide)))
    (pss_cons (ps_dput hu (pv 1) pe_str (pe_lc (own := [("_law_cell", 2)]) rfl nd (pi_list (pv 0)) (blkOk_by (N := N__law_begun) (sc := defScope s__law_begun) (by decide +kernel)) (fun _ _ _ _ _ => (pg_name (i := 2) nd rfl (Or.inl rfl))) (fun _ _ _ _ _ => pts_nil) (fun _ _ _ _ _ => (pe_ifExp (pt_cmpR op_ge (pv 2) (pe_op op_pow pe_int pe_int) (nomark _)) (pv 2) pe_int))) rfl)
    (pss_one (ps_ret (pv 1))))), ?_⟩
    intro m nm
    have s0 : Same H (upd H m (.dK [])) := Same.new nm
    refine ⟨_, rfl, a, ns, rfl, s0.seq hS, hl, fun c cs H1 nc s1 hc hcl => ?_⟩
    refine ⟨(by show 0 ≤ sizeLine; decide), fun q0 nq0 => ?_⟩
    have s2 : Same H1 (upd H1 q0 (.lst [])) := Same.new nq0
    have hm2 : (upd H1 q0 (.lst [])) m = some (.dK []) := s2 _ _ (s1 _ _ upd_same)
    refine ⟨hm2, [(kc, .ref c), (kg, .ref q0), (ks, .int 0)], rfl, (by show 3 ≤ 15; decide), ?_⟩
    rw [merge_m]
    show tSeq _ _ _ [some (.ref a), some (.ref m), none] _
    have nmc : c ≠ m := fun z => by
      rw [z, upd_same] at nc
      cases nc
    have hc2 := s2 _ _ hc
    have s3 : Same H (upd (upd H1 q0 (.lst [])) m (.dK [(kc, .ref c), (kg, .ref q0), (ks, .int 0)])) := Fut.mut ((s0.trans s1).trans s2) nm
    have hm3 : (upd (upd H1 q0 (.lst [])) m (.dK [(kc, .ref c), (kg, .ref q0), (ks, .int 0)])) m = some (.dK [(kc, .ref c), (kg, .ref q0), (ks, .int 0)]) := upd_same
    have hc3 : (upd (upd H1 q0 (.lst [])) m (.dK [(kc, .ref c), (kg, .ref q0), (ks, .int 0)])) c = some (.lst (cs.map V.int)) := by rw [upd_ne nmc]; exact hc2
    generalize (upd (upd H1 q0 (.lst [])) m (.dK [(kc, .ref c), (kg, .ref q0), (ks, .int 0)])) = H3 at s3 hm3 hc3 ⊢
    refine ⟨_, rfl, a, rfl, ⟨_, s3.seq hS⟩, fun D hD => lc_it walk_list (fun i H4 => ∃ acc : List Int, H4 D = some (.lst (acc.map V.int)) ∧ acc.length = i ∧ Same H3 H4) ⟨[], upd_same, rfl, Same.new hD⟩ (fun i H4 _ ⟨_, _, _, s4⟩ => (s3.trans s4).seq hS) ?_ ?_⟩
    · rintro i x H4 H5 hi ⟨acc, hA, ha, s4⟩ ⟨rfl, hx⟩
      rw [List.length_map] at hi
      obtain ⟨z, hz, rfl⟩ : ∃ z, ns[i]? = some z ∧ x = V.int z := by
        rw [List.getElem?_map] at hx
        cases e : ns[i]? with
        | none =>
          rw [e] at hx
          cases hx
        | some z =>
          rw [e] at hx
          exact ⟨z, rfl, (Option.some.inj hx).symm⟩
      refine ⟨rfl, _, rfl, _, _, rfl, rfl, ⟨by decide, by decide, by decide⟩, _, _, rfl, rfl, _, rfl, ?_⟩
      have nl : (acc.map V.int).length < sizeLine := small1000 (by rw [List.length_map]; omega)
      refine ite2 (fun _ => ?_) (fun _ => ?_)
      · exact ⟨_, rfl, _, hA, nl, acc ++ [z], by rw [upd_same, List.map_append] <;> rfl, by rw [List.length_append, ha] <;> rfl, Fut.mut s4 hD⟩
      · exact ⟨_, hA, nl, acc ++ [0], by rw [upd_same, List.map_append] <;> rfl, by rw [List.length_append, ha] <;> rfl, Fut.mut s4 hD⟩
    · rintro H4 ⟨acc, hA, ha, s4⟩
      refine ⟨_, rfl, m, _, rfl, DPut.k (k := kg) (s4 _ _ hm3) (small1000 (by show 3 ≤ 1000; decide)), ?_⟩
      rw [put_great]
      rw [List.length_map] at ha
      have sF := Fut.mut (s3.trans s4) nm (o := .dK [(kc, .ref c), (kg, .ref D), (ks, .int 0)])
      have nD : D ≠ m := fun z => by
        rw [z, hm3] at hD
        cases hD
      refine ⟨_, rfl, k m c D _ sF ⟨sF, nm, s0.free nc, s3.free hD, ⟨0, upd_same, by decide, by decide⟩, ⟨cs, by rw [upd_ne nmc]; exact s4 _ _ hc3, hcl⟩, ⟨acc, by rw [upd_ne nD]; exact hA, by omega⟩, fun z => ?_⟩⟩
      rw [← z, hc3] at hD
      cases hD
end
end
end W2

namespace W2
open PySem PySem.Spec PyProof.Rows L2 Pg Pf
theorem FutM.mut {m q D : Addr} {G H G' H' : Hp} {o : HO} (f : FutM m q G H G' H') (hD : H D = none) (hG : G' D = none) : FutM m q G H G' (upd H' D o) :=
  ⟨f.g, fun p u e h1 h2 => by rw [upd_ne (ne_of_none e hD)]; exact f.h p u e h1 h2, Fut.mut f.s hG, f.n, fun p e => by
    by_cases z : p = D
    · rw [z]
      exact hD
    · rw [upd_ne z] at e
      exact f.k p e⟩
theorem MAt.ne {G H : Hp} {m c q D : Addr} {b : Nat} (M : MAt G H m c q b) (hD : H D = none) : D ≠ m ∧ D ≠ c ∧ D ≠ q := by
  obtain ⟨n, h1, _⟩ := M.ob
  obtain ⟨cs, h2, _⟩ := M.cs
  obtain ⟨gs, h3, _⟩ := M.gs
  exact ⟨(ne_of_none h1 hD).symm, (ne_of_none h2 hD).symm, (ne_of_none h3 hD).symm⟩
theorem MAt.mut {G H : Hp} {m c q D : Addr} {b : Nat} {o : HO} (M : MAt G H m c q b) (n : D ≠ m ∧ D ≠ c ∧ D ≠ q) (hG : G D = none) : MAt G (upd H D o) m c q b := by
  obtain ⟨n1, n2, n3⟩ := n
  obtain ⟨x, h1, h1'⟩ := M.ob
  obtain ⟨cs, h2, h2'⟩ := M.cs
  obtain ⟨gs, h3, h3'⟩ := M.gs
  exact ⟨Fut.mut M.s hG, M.gm, M.gc, M.gq, ⟨x, by rw [upd_ne n1.symm]; exact h1, h1'⟩, ⟨cs, by rw [upd_ne n2.symm]; exact h2, h2'⟩, ⟨gs, by rw [upd_ne n3.symm]; exact h3, h3'⟩, M.cq⟩
theorem FutM.fresh {m q D : Addr} {G H G' H' : Hp} (f : FutM m q G H G' H') (s : Same G H) (hD : H D ≠ none) (hG : G D = none) : G' D = none := by
  cases e : G' D with
  | none => rfl
  | some o =>
    rcases f.n D (by rw [e]; simp) with z | z
    · exact absurd hG z
    · exact absurd z hD
/-- an ascending, nonempty list of places below many -/
def Cell (many : Int) (ns : List Int) : Prop := ns ≠ [] ∧ ns.Pairwise (· < ·) ∧ ∀ x ∈ ns, 0 ≤ x ∧ x < many
/-- some(m, many, sparse) -/
def spSome : Sp := fun vs H Q _ => ∃ (G : Hp) (m c q : Addr) (b : Nat) (many sparse : Int), vs = [.ref m, .int many, .int sparse] ∧ MAt G H m c q b ∧ b ≤ 900000000 ∧ 1 ≤ many ∧ many ≤ 12 ∧
  ∀ (t : Addr) (ns : List Int) (G' H' : Hp), Cell many ns → FutM m q G H G' H' → MAt G' H' m c q (b + 13) → G' t = some (.tup (ns.map V.int)) → Q (.ref t) H'
abbrev s__law_some : Stmt := top 22
abbrev N__law_some : List Str := ["_law_m", "_law_many", "_law_sparse", "_law_found", "_law_spot"]
theorem sc__law_some : FnScope N__law_some ["_law_m", "_law_many", "_law_sparse"] (defScope s__law_some) := ⟨rfl, rfl, rfl, by decide +kernel, rfl, by decide +kernel, by decide +kernel⟩
section
variable {P : Program} {w : World} {K : PySem.W.Frag} {mg : Str → Option Value} {base : Heap} {f : Addr} {fd : FuncData}
theorem ok_some (T : Bt mg) (cD : CalG P w K mg base 3 "_law_draw" spDraw) (F : Fun K "_law_some" "_law_some" s__law_some f fd) : FnG P w K mg base 4 f fd ["_law_m", "_law_many", "_law_sparse"] spSome := by
  refine okG F sc__law_some (fun vs H Q E h => ?_) (fun cdv A outer s H vs Q E hr hgd h => ?_)
  · obtain ⟨G, m, c, q, b, many, sparse, rfl, _⟩ := h
    rfl
  · obtain ⟨G, m, c, q, b, many, sparse, rfl, M, hb, h1, h2, k⟩ := h
    have nd := sc__law_some.nd
    refine ⟨_, (pss_cons (ps_setLc (i := 3) (own := [("_law_spot", 4)]) rfl nd rfl rfl (sw_true rfl rfl rfl (by decide +kernel)) (pi_range1 rfl T.range (pa_cons (pv 1) pa_nil)) (blkOk_by (N := N__law_some) (sc := defScope s__law_some) (by decide +kernel)) (fun _ _ _ _ _ => (pg_name (i := 4) nd rfl (Or.inl rfl))) (fun _ _ _ _ _ => pts_one (pt_cmpR op_ge (pe_cG cD hr (by decide) hgd rfl (pa_cons (pv 0) (pa_cons pe_int pa_nil))) (pv 2) (nomark _))) (fun _ _ _ _ _ => (pv 4)))
    (pss_one (ps_ret (pe_ifExp (pt_cmpR (op_neD hr.units) (pv 3) (pe_lst pa_nil) (nomark _)) (pe_callTy call_tuple_of (by rfl) T.tuple (by decide +kernel) (pa_cons (pv 3) pa_nil)) (pe_tup (pa_cons (pe_cG cD hr (by decide) hgd rfl (pa_cons (pv 0) (pa_cons (pv 1) pa_nil))) pa_nil)))))), ?_⟩
    refine ⟨_, rfl, many, rfl, by omega, by omega, fun D hD => ?_⟩
    have nD := MAt.ne M hD
    have gD : G D = none := M.s.free hD
    refine lc_range (lo := 0) (n := many.toNat) (fun i H4 => ∃ acc : List Int, H4 D = some (.lst (acc.map V.int)) ∧ acc.Pairwise (· < ·) ∧ (∀ x ∈ acc, 0 ≤ x ∧ x < (i : Int)) ∧ acc.length ≤ i ∧ FutM m q G H G H4 ∧ MAt G H4 m c q (b + i)) ⟨[], upd_same, List.Pairwise.nil, by simp, by simp, FutM.mut (FutM.refl M.s) hD gD, MAt.mut M nD gD⟩ ?_ ?_
    · rintro i H4 hi ⟨acc, hA, ha1, ha2, ha3, f4, M4⟩
      refine ⟨rfl, ?_⟩
      refine ⟨_, rfl, G, m, c, q, b + i, 4, rfl, M4, by omega, by decide, by decide, fun r H5 r0 r1 f5 M5 => ?_⟩
      refine ⟨_, rfl, _, _, rfl, rfl, _, rfl, ?_⟩
      have hA5 := f5.h D _ hA nD.1 nD.2.2
      refine ite2 (fun _ => ?_) (fun _ => ?_)
      · refine ⟨_, rfl, _, hA5, small1000 (by rw [List.length_map]; omega), acc ++ [(0 + (i : Int))], by rw [upd_same, List.map_append] <;> rfl, ?_, ?_, by rw [List.length_append]; show acc.length + 1 ≤ i + 1; omega, FutM.mut (f4.trans f5) hD gD, MAt.mut M5 nD gD⟩
        · rw [List.pairwise_append]
          refine ⟨ha1, by simp, fun x hx y hy => ?_⟩
          rw [List.mem_singleton] at hy
          have := ha2 x hx
          omega
        · intro x hx
          rcases List.mem_append.mp hx with z | z
          · have := ha2 x z
            omega
          · rw [List.mem_singleton] at z
            omega
      · exact ⟨acc, hA5, ha1, fun x hx => by have := ha2 x hx; omega, by omega, f4.trans f5, M5⟩
    · rintro H4 ⟨acc, hA, ha1, ha2, ha3, f4, M4⟩
      refine ⟨_, rfl, (by show 0 ≤ sizeLine; decide), fun p hp => ⟨_, _, .lst (SqL.of (by rw [upd_ne (ne_of_none hA hp)]; exact hA)) (DpAll.ints acc), .lst (SqL.of upd_same) .nil, shaped_ints acc, rfl, _, rfl, ?_⟩⟩
      rw [eqv_nil]
      have f5 := f4.trans (Fut.up M4.s (Same.new (o := .lst []) hp)).m
      have M5 := M4.fut (Fut.up M4.s (Same.new (o := .lst []) hp))
      have hA5 : (upd H4 p (.lst [])) D = some (.lst (acc.map V.int)) := by rw [upd_ne (ne_of_none hA hp)]; exact hA
      generalize (upd H4 p (.lst [])) = H5 at f5 M5 hA5 ⊢
      cases acc with
      | nil =>
        refine iteF ?_
        refine ⟨_, rfl, _, rfl, G, m, c, q, b + many.toNat, many, rfl, M5, by omega, by omega, by omega, fun r H6 r0 r1 f6 M6 => ⟨(by show 1 ≤ sizeLine; decide), fun t ht => ?_⟩⟩
        have fn := Fut.new (o := .tup [V.int r]) M6.s ht
        exact k t [r] _ _ ⟨by simp, by simp, fun x hx => by rw [List.mem_singleton] at hx; omega⟩ ((f5.trans f6).trans fn.m) ((M6.fut fn).mono (by omega)) upd_same
      | cons a0 ar =>
        refine iteT ?_
        refine ⟨_, rfl, D, _, rfl, .inl ⟨SqL.of hA5, fun t ht => ?_⟩⟩
        have fn := Fut.new (o := .tup ((a0 :: ar).map V.int)) M5.s ht
        exact k t (a0 :: ar) _ _ ⟨by simp, ha1, fun x hx => by have := ha2 x hx; omega⟩ (f5.trans fn.m) ((M5.fut fn).mono (by omega)) upd_same
end
end W2

namespace W2
open PySem PySem.Spec PyProof.Rows L2 Pg Pf
/-! ### nets as data -/
def cellD (c : List Int) : PyData := .tuple (c.map PyData.int)
def rowL (r : List (List Int)) : PyData := .list (r.map cellD)
def rowT (r : List (List Int)) : PyData := .tuple (r.map cellD)
def tabL (T : List (List (List Int))) : PyData := .list (T.map rowL)
def tabT (T : List (List (List Int))) : PyData := .tuple (T.map rowT)
def netD (e w k : Int) (T : List (List (List Int))) : PyData := .tuple [.int e, .int w, .int k, tabL T]
structure Net (most many e w k : Int) (T : List (List (List Int))) : Prop where
  e1 : 1 ≤ e
  e2 : e ≤ most
  w1 : 1 ≤ w
  w2 : w ≤ most
  k1 : 1 ≤ k
  k2 : k ≤ many
  len : (T.length : Int) = e
  row : ∀ r ∈ T, (r.length : Int) = w ∧ ∀ c ∈ r, Cell k c
theorem dp_cell {K : PySem.W.Frag} {H : Hp} {t : Addr} {ns : List Int} (h : H t = some (.tup (ns.map V.int))) : Dp K H (.ref t) (cellD ns) := .tup (Evl.st_of h) (DpAll.ints ns)
def rangeI (k : Int) : List Int := (List.range k.toNat).map fun i => (0 : Int) + (i : Nat)
theorem rangeI_V (k : Int) : rgV 0 k = (rangeI k).map V.int := by
  unfold rgV rangeI
  rw [List.map_map, Int.sub_zero]
  rfl
theorem cell_range {k : Int} (h : 1 ≤ k) : Cell k (rangeI k) := by
  unfold rangeI
  refine ⟨fun z => ?_, ?_, fun x hx => ?_⟩
  · have := congrArg List.length z
    rw [List.length_map, List.length_range] at this
    simp at this
    omega
  · rw [List.pairwise_map]
    exact List.pairwise_lt_range.imp fun h => by omega
  · obtain ⟨i, hi, rfl⟩ := List.mem_map.mp hx
    rw [List.mem_range] at hi
    omega
/-- what stands at D, new since H, is known for good from now on -/
theorem FutM.freeze {m q D : Addr} {G H G' H' : Hp} {o : HO} (f : FutM m q G H G' H') (hD : H D = none) (hG : G' D = none) (hd : H' D = some o) : FutM m q G H (upd G' D o) H' :=
  ⟨f.g.trans (Same.new hG), f.h, fun b u e => by
    by_cases z : b = D
    · rw [z, upd_same] at e
      rw [z, hd]
      exact e
    · rw [upd_ne z] at e
      exact f.s _ _ e, fun p e => by
    by_cases z : p = D
    · exact .inr (z ▸ hD)
    · rw [upd_ne z] at e
      exact f.n p e, f.k⟩
theorem MAt.freeze {G H : Hp} {m c q D : Addr} {b : Nat} {o : HO} (M : MAt G H m c q b) (n : D ≠ m ∧ D ≠ c ∧ D ≠ q) (hd : H D = some o) : MAt (upd G D o) H m c q b := by
  obtain ⟨n1, n2, n3⟩ := n
  exact ⟨fun b u e => by
    by_cases z : b = D
    · rw [z, upd_same] at e
      rw [z, hd]
      exact e
    · rw [upd_ne z] at e
      exact M.s _ _ e, by rw [upd_ne n1.symm]; exact M.gm, by rw [upd_ne n2.symm]; exact M.gc, by rw [upd_ne n3.symm]; exact M.gq, M.ob, M.cs, M.gs, M.cq⟩
def spNet (K : PySem.W.Frag) : Sp := fun vs H Q _ => ∃ (G : Hp) (m c q : Addr) (b : Nat) (most many : Int), vs = [.ref m, .int most, .int many] ∧ MAt G H m c q b ∧ b ≤ 800000000 ∧ 1 ≤ most ∧ most ≤ 6 ∧ 1 ≤ many ∧ many ≤ 12 ∧
  ∀ (t : Addr) (e w k : Int) (R : List (List (List Int))) (G' H' : Hp), Net most many e w k R → FutM m q G H G' H' → MAt G' H' m c q (b + 600) → Dp K G' (.ref t) (netD e w k R) → Q (.ref t) H'
abbrev s__law_net : Stmt := top 23
abbrev N__law_net : List Str := ["_law_m", "_law_most", "_law_many", "_law_east", "_law_west", "_law_sparse", "_law_spots", "_law_rows", "_law_n", "_law_k"]
theorem sc__law_net : FnScope N__law_net ["_law_m", "_law_most", "_law_many"] (defScope s__law_net) := ⟨rfl, rfl, rfl, by decide +kernel, rfl, by decide +kernel, by decide +kernel⟩
section
variable {P : Program} {w : World} {K : PySem.W.Frag} {mg : Str → Option Value} {base : Heap} {f : Addr} {fd : FuncData}
theorem ok_net (T : Bt mg) (cD : CalG P w K mg base 3 "_law_draw" spDraw) (cS : CalG P w K mg base 4 "_law_some" spSome) (F : Fun K "_law_net" "_law_net" s__law_net f fd) : FnG P w K mg base 5 f fd ["_law_m", "_law_most", "_law_many"] (spNet K) := by
  refine okG F sc__law_net (fun vs H Q E h => ?_) (fun cdv A outer s H vs Q E hr hgd h => ?_)
  · obtain ⟨G, m, c, q, b, most, many, rfl, _⟩ := h
    rfl
  · obtain ⟨G, m, c, q, b, most, many, rfl, M, hb, h1, h2, h3, h4, k⟩ := h
    have nd := sc__law_net.nd
    refine ⟨_, (pss_cons (ps_asg (pe_tup (pa_cons (pe_op op_add pe_int (pe_cG cD hr (by decide) hgd rfl (pa_cons (pv 0) (pa_cons (pv 1) pa_nil)))) (pa_cons (pe_op op_add pe_int (pe_cG cD hr (by decide) hgd rfl (pa_cons (pv 0) (pa_cons (pv 1) pa_nil)))) (pa_cons (pe_cG cD hr (by decide) hgd rfl (pa_cons (pv 0) (pa_cons pe_int pa_nil))) pa_nil)))) (pg_tup rfl (pgs_cons (pg_name (i := 3) nd rfl (Or.inl rfl)) (pgs_cons (pg_name (i := 4) nd rfl (Or.inl rfl)) (pgs_cons (pg_name (i := 5) nd rfl (Or.inr rfl)) pgs_nil)))))
    (pss_cons (ps_set (i := 6) nd rfl (Or.inr rfl) (pe_callB (call_max2 rfl) (by rfl) T.max (by decide +kernel) (pa_cons pe_int (pa_cons (pe_callB (call_min2 rfl) (by rfl) T.min (by decide +kernel) (pa_cons (pv 2) (pa_cons (pe_op op_sub (pe_op op_add (pe_callB (call_min2 rfl) (by rfl) T.min (by decide +kernel) (pa_cons (pv 3) (pa_cons (pv 4) pa_nil))) (pe_cG cD hr (by decide) hgd rfl (pa_cons (pv 0) (pa_cons pe_int pa_nil)))) pe_int) pa_nil))) pa_nil))))
    (pss_cons (ps_set (i := 7) nd rfl (Or.inl rfl) (pe_lst pa_nil))
    (pss_cons (ps_for PassesOwn.never rfl (pi_range1 rfl T.range (pa_cons (pv 3) pa_nil)) (pg_name (i := 8) nd rfl (Or.inl rfl))
    (pss_one (ps_expr (pe_bm PySem.F.plainAttrs_list PySem.F.slot_list_append PySem.F.type_list_append mt_append (pv 7) (pa_cons (pe_lc (own := [("_law_k", 9)]) rfl nd (pi_range1 rfl T.range (pa_cons (pv 4) pa_nil)) (blkOk_by (N := N__law_net) (sc := defScope s__law_net) (by decide +kernel)) (fun _ _ _ _ _ => (pg_name (i := 9) nd rfl (Or.inl rfl))) (fun _ _ _ _ _ => pts_nil) (fun _ _ _ _ _ => (pe_ifExp (pt_cmpR op_gt (pe_cG cD hr (by decide) hgd rfl (pa_cons (pv 0) (pa_cons pe_int pa_nil))) pe_int (nomark _)) (pe_cG cS hr (by decide) hgd rfl (pa_cons (pv 0) (pa_cons (pv 6) (pa_cons (pv 5) pa_nil)))) (pe_tupRg rfl (by rfl) T.tuple (prg_1 (by rfl) T.range (pv 6)))))) pa_nil)))))
    (pss_one (ps_ret (pe_tup (pa_cons (pv 3) (pa_cons (pv 4) (pa_cons (pv 6) (pa_cons (pv 7) pa_nil))))))))))), ?_⟩
    refine ⟨_, rfl, _, rfl, G, m, c, q, b, most, rfl, M, by omega, by omega, by omega, fun r1 H1 a0 a1 f1 M1 => ⟨_, _, rfl, rfl, _, rfl, _, rfl, G, m, c, q, _, most, rfl, M1, by omega, by omega, by omega, fun r2 H2 b0 b1 f2 M2 =>
      ⟨_, _, rfl, rfl, _, rfl, G, m, c, q, _, 4, rfl, M2, by omega, by decide, by decide, fun r3 H3 c0 c1 f3 M3 => ⟨(by show 3 ≤ sizeLine; decide), fun p hp => ?_⟩⟩⟩⟩
    refine ⟨p, _, rfl, SqT.of upd_same, rfl, _, _, rfl, _, _, rfl, _, _, rfl, rfl, ?_⟩
    have f4 := ((f1.trans f2).trans f3).trans (Fut.up M3.s (Same.new (o := .tup [V.int (1 + r1), V.int (1 + r2), V.int r3]) hp)).m
    have M4 := M3.fut (Fut.up M3.s (Same.new (o := .tup [V.int (1 + r1), V.int (1 + r2), V.int r3]) hp))
    show tSeq _ _ _ [some (.ref m), some (.int most), some (.int many), some (.int (1 + r1)), some (.int (1 + r2)), some (.int r3), none, none, none, none] (upd H3 p (.tup [V.int (1 + r1), V.int (1 + r2), V.int r3]))
    generalize (upd H3 p (.tup [V.int (1 + r1), V.int (1 + r2), V.int r3])) = H4 at f4 M4 ⊢
    have e1 : 1 ≤ 1 + r1 := by omega
    have e2 : 1 + r1 ≤ most := by omega
    have w1 : 1 ≤ 1 + r2 := by omega
    have w2 : 1 + r2 ≤ most := by omega
    generalize 1 + r1 = e at e1 e2 ⊢
    generalize 1 + r2 = wd at w1 w2 ⊢
    refine ⟨_, rfl, _, rfl, _, rfl, _, _, rfl, _, rfl, G, m, c, q, _, 5, rfl, M4, by omega, by decide, by decide, fun r4 H5 d0 d1 f5 M5 => ⟨_, _, rfl, rfl, _, _, rfl, rfl, _, _, rfl, _, _, rfl, ?_⟩⟩
    have f6 := f4.trans f5
    obtain ⟨sp, hsp, sp1, sp2⟩ : ∃ sp : Int, (if (if (if wd < e then wd else e) + r4 - 1 < many then (if wd < e then wd else e) + r4 - 1 else many) > 1 then (if (if wd < e then wd else e) + r4 - 1 < many then (if wd < e then wd else e) + r4 - 1 else many) else 1) = sp ∧ 1 ≤ sp ∧ sp ≤ many := ⟨_, rfl, by
      split <;> omega, by
      split
      · split <;> omega
      · omega⟩
    show tSeq _ _ _ [some (.ref m), some (.int most), some (.int many), some (.int e), some (.int wd), some (.int r3), some (.int (if (if (if wd < e then wd else e) + r4 - 1 < many then (if wd < e then wd else e) + r4 - 1 else many) > 1 then (if (if wd < e then wd else e) + r4 - 1 < many then (if wd < e then wd else e) + r4 - 1 else many) else 1)), none, none, none] H5
    rw [hsp]
    refine ⟨(by show 0 ≤ sizeLine; decide), fun L hL => ?_⟩
    have nL := MAt.ne M5 hL
    have gL : G L = none := M5.s.free hL
    have hL0 : H L = none := f6.k L hL
    refine ⟨_, rfl, e, rfl, by omega, by omega, for_range (lo := 0) (n := e.toNat) (fun i σ H6 => ∃ (G6 : Hp) (R : List (List (List Int))) (vs : List V) (v8 : Option V), σ = [some (.ref m), some (.int most), some (.int many), some (.int e), some (.int wd), some (.int r3), some (.int sp), some (.ref L), v8, none] ∧
        H6 L = some (.lst vs) ∧ DpAll K G6 vs (R.map rowL) ∧ R.length = i ∧ (∀ r ∈ R, (r.length : Int) = wd ∧ ∀ c ∈ r, Cell sp c) ∧ FutM m q G H G6 H6 ∧ MAt G6 H6 m c q (b + 4 + 90 * i) ∧ G6 L = none)
      ⟨G, [], [], none, rfl, upd_same, .nil, rfl, by simp, FutM.mut f6 hL0 gL, (MAt.mut M5 nL gL).mono (by omega), gL⟩ ?_ ?_⟩
    · rintro i σ H6 hi ⟨G6, R, vs, v8, rfl, hl6, hd6, hR1, hR2, f7, M7, g7⟩
      refine ⟨_, rfl, .inl ⟨rfl, _, SqL.of hl6⟩, ?_⟩
      refine ⟨_, rfl, wd, rfl, by omega, by omega, fun D hD => ?_⟩
      have nD := MAt.ne M7 hD
      have gD : G6 D = none := M7.s.free hD
      have hD0 : H D = none := f7.k D hD
      have nDL : L ≠ D := ne_of_none hl6 hD
      refine lc_range (lo := 0) (n := wd.toNat) (fun j H8 => ∃ (G8 : Hp) (r : List (List Int)) (ws : List V), H8 D = some (.lst ws) ∧ DpAll K G8 ws (r.map cellD) ∧ r.length = j ∧ (∀ c ∈ r, Cell sp c) ∧ Same G6 G8 ∧ FutM m q G H G8 H8 ∧ MAt G8 H8 m c q (b + 4 + 90 * i + 14 * j) ∧ G8 D = none ∧ G8 L = none ∧ H8 L = some (.lst vs))
        ⟨G6, [], [], upd_same, .nil, rfl, by simp, Same.refl _, FutM.mut f7 hD0 gD, MAt.mut M7 nD gD, gD, g7, by rw [upd_ne nDL]; exact hl6⟩ ?_ ?_
      · rintro j H8 hj ⟨G8, r, ws, h8, hd8, hr1, hr2, s8, f8, M8, gD8, gL8, hl8⟩
        refine ⟨rfl, ?_⟩
        refine ⟨_, rfl, G8, m, c, q, _, 3, rfl, M8, by omega, by decide, by decide, fun r5 H9 x0 x1 f9 M9 => ⟨_, _, rfl, rfl, _, rfl, ?_⟩⟩
        have h9 := f9.h D _ h8 nD.1 nD.2.2
        have hl9 := f9.h L _ hl8 nL.1 nL.2.2
        have wl : ws.length < sizeLine := small1000 (by rw [DpAll.len hd8, List.length_map]; omega)
        refine ite2 (fun _ => ?_) (fun _ => ?_)
        · refine ⟨_, rfl, _, rfl, _, rfl, G8, m, c, q, _, sp, r3, rfl, M9, by omega, by omega, by omega, fun t ns G10 H10 hc f10 M10 ht => ?_⟩
          have gD10 : G10 D = none := FutM.fresh f10 M9.s (by rw [h9]; simp) gD8
          have gL10 : G10 L = none := FutM.fresh f10 M9.s (by rw [hl9]; simp) gL8
          have h10 := f10.h D _ h9 nD.1 nD.2.2
          refine ⟨_, h10, wl, G10, r ++ [ns], _, upd_same, ?_, by rw [List.length_append, hr1] <;> rfl, ?_, s8.trans f10.g, FutM.mut ((f8.trans f9).trans f10) hD0 gD10, (MAt.mut M10 nD gD10).mono (by omega), gD10, gL10, by rw [upd_ne nDL]; exact f10.h L _ hl9 nL.1 nL.2.2⟩
          · rw [List.map_append]
            exact DpAll.snoc (DpAll.mono f10.g _ _ hd8) (dp_cell ht)
          · intro x hx
            rcases List.mem_append.mp hx with z | z
            · exact hr2 x z
            · rw [List.mem_singleton] at z
              exact z ▸ hc
        · refine ⟨_, rfl, _, rfl, RgOk.of_le (by decide) (by omega) (by decide) (by omega), fun t ht => ?_⟩
          rw [rangeI_V]
          have fn := Fut.new (o := .tup ((rangeI sp).map V.int)) M9.s ht
          have nt : D ≠ t := ne_of_none h9 ht
          have nt2 : L ≠ t := ne_of_none hl9 ht
          have gD10 : (upd G8 t (.tup ((rangeI sp).map V.int))) D = none := by rw [upd_ne nt]; exact gD8
          have gL10 : (upd G8 t (.tup ((rangeI sp).map V.int))) L = none := by rw [upd_ne nt2]; exact gL8
          refine ⟨_, by rw [upd_ne nt]; exact h9, wl, _, r ++ [rangeI sp], _, upd_same, ?_, by rw [List.length_append, hr1] <;> rfl, ?_, s8.trans fn.g, FutM.mut ((f8.trans f9).trans fn.m) hD0 gD10, (MAt.mut (M9.fut fn) nD gD10).mono (by omega), gD10, gL10, by rw [upd_ne nDL, upd_ne nt2]; exact hl9⟩
          · rw [List.map_append]
            exact DpAll.snoc (DpAll.mono fn.g _ _ hd8) (dp_cell upd_same)
          · intro x hx
            rcases List.mem_append.mp hx with z | z
            · exact hr2 x z
            · rw [List.mem_singleton] at z
              exact z ▸ cell_range sp1
      · rintro H8 ⟨G8, r, ws, h8, hd8, hr1, hr2, s8, f8, M8, gD8, gL8, hl8⟩
        refine ⟨L, vs, _, rfl, rfl, hl8, small1000 (by rw [DpAll.len hd6, List.length_map]; omega), ?_⟩
        have g9 : (upd G8 D (.lst ws)) L = none := by rw [upd_ne nDL]; exact gL8
        have f9 := FutM.freeze f8 hD0 gD8 h8
        have M9 := MAt.freeze M8 nD h8
        have sN : Same G8 (upd G8 D (.lst ws)) := Same.new gD8
        refine ⟨_, R ++ [r], _, _, rfl, upd_same, ?_, by rw [List.length_append, hR1] <;> rfl, ?_, FutM.mut f9 hL0 g9, (MAt.mut M9 nL g9).mono (by omega), g9⟩
        · rw [List.map_append]
          exact DpAll.snoc (DpAll.mono (s8.trans sN) _ _ hd6) (.lst (SqL.of upd_same) (DpAll.mono sN _ _ hd8))
        · intro x hx
          rcases List.mem_append.mp hx with z | z
          · exact hR2 x z
          · rw [List.mem_singleton] at z
            rw [z]
            exact ⟨by omega, hr2⟩
    · rintro σ H6 ⟨G6, R, vs, v8, rfl, hl6, hd6, hR1, hR2, f7, M7, g7⟩
      refine ⟨_, rfl, _, rfl, _, rfl, _, rfl, (by show 4 ≤ sizeLine; decide), fun t ht => ?_⟩
      have f8 := FutM.freeze f7 hL0 g7 hl6
      have M8 := MAt.freeze M7 nL hl6
      have fn := Fut.new (o := .tup [.int e, .int wd, .int sp, .ref L]) M8.s ht
      refine k t e wd sp R _ _ ⟨e1, e2, w1, w2, sp1, sp2, by omega, hR2⟩ (f8.trans fn.m) ((M8.fut fn).mono (by omega)) ?_
      refine .tup (Evl.st_of upd_same) (.cons (.int _) (.cons (.int _) (.cons (.int _) (.cons ?_ .nil))))
      exact .lst (Same.seq fn.g (SqL.of upd_same)) (DpAll.mono ((Same.new g7).trans fn.g) _ _ hd6)
end
end W2

/-! Tab: tables as functions of the pair; tuples cut and joined. -/
namespace Tab
open PySem PySem.Spec PyProof.Rows L2 Pg Pf Rul W2
theorem slA {K : PySem.W.Frag} {G H : Hp} {a : Addr} {xs : List V} {lo hi : Option Int} {Q : VK} (s : Same G H) (h : SqT K G a xs)
    (k : ∀ p G' H', Fut G H G' H' → SqT K G' p (cutV xs lo hi) → Q (.ref p) H') : rSlA K (.ref a) lo hi H Q := by
  refine ⟨a, xs, rfl, Evl.ex_t s h, fun ⟨e1, e2⟩ => ?_, fun _ p hp => ?_⟩
  · have e : cutV xs lo hi = xs := by
      unfold cutV
      rw [e1, e2, List.drop_zero, Nat.sub_zero, List.take_length]
    exact k a G H (Fut.refl s) (by rw [e]; exact h)
  · exact k p _ _ (Fut.new s hp) (Evl.st_of upd_same)
theorem catA {K : PySem.W.Frag} {G H : Hp} {a b : Addr} {xs ys : List V} {Q : VK} (s : Same G H) (h1 : SqT K G a xs) (h2 : SqT K G b ys) (hl : xs.length + ys.length ≤ 1000)
    (k : ∀ p G' H', Fut G H G' H' → SqT K G' p (xs ++ ys) → Q (.ref p) H') : rCatA K (.ref a) (.ref b) H Q := by
  refine ⟨a, b, xs, ys, rfl, rfl, Evl.ex_t s h1, Evl.ex_t s h2, Nat.le_of_lt (small1000 hl), fun e => ?_, fun _ e => ?_, fun _ _ p hp => ?_⟩
  · exact k b G H (Fut.refl s) (by rw [e]; exact h2)
  · exact k a G H (Fut.refl s) (by rw [e, List.append_nil]; exact h1)
  · exact k p _ _ (Fut.new s hp) (Evl.st_of upd_same)
theorem repA {K : PySem.W.Frag} {G H : Hp} {a : Addr} {xs : List V} {n : Int} {Q : VK} (s : Same G H) (h : SqT K G a xs) (hx : xs ≠ []) (h1 : 1 ≤ n) (h2 : n ≤ 1000) (h3 : xs.length ≤ 1000)
    (k : ∀ p G' H', Fut G H G' H' → SqT K G' p (List.replicate n.toNat xs).flatten → Q (.ref p) H') : rRepA K (.ref a) (.int n) H Q := by
  refine ⟨a, n, xs, rfl, rfl, Evl.ex_t s h, hx, h1, h2, h3, fun e => ?_, fun _ p hp => ?_⟩
  · refine k a G H (Fut.refl s) ?_
    have e : (List.replicate n.toNat xs).flatten = xs := by
      subst e
      show (List.replicate 1 xs).flatten = xs
      simp
    rw [e]
    exact h
  · exact k p _ _ (Fut.new s hp) (Evl.st_of upd_same)
theorem cut_to (xs : List V) (j : Nat) (h : j ≤ xs.length) : cutV xs none (some (j : Int)) = xs.take j := by
  unfold cutV
  rw [HT.sIx_none, HT.sIx_nat, List.drop_zero, Nat.sub_zero, Nat.min_eq_left h]
theorem cut_from (xs : List V) (j : Nat) (h : j ≤ xs.length) : cutV xs (some (j : Int)) none = xs.drop j := by
  unfold cutV
  rw [HT.sIx_none, HT.sIx_nat, Nat.min_eq_left h]
  exact List.take_of_length_le (by rw [List.length_drop]; exact Nat.le_refl _)
theorem set_cut {α : Type} (xs : List α) (j : Nat) (v : α) (h : j < xs.length) : xs.take j ++ [v] ++ xs.drop (j + 1) = xs.set j v := by
  rw [List.set_eq_take_append_cons_drop, if_pos h, List.append_assoc]
  rfl
/-- a table by its entries -/
def tabF (r l : Nat) (c : Nat → Nat → List Int) : List (List (List Int)) := (List.range r).map fun i => (List.range l).map fun j => c i j
theorem tabF_len (r l : Nat) (c : Nat → Nat → List Int) : (tabF r l c).length = r := by unfold tabF; rw [List.length_map, List.length_range]
theorem tabF_at {r l : Nat} {c : Nat → Nat → List Int} {i : Nat} (h : i < r) : (tabF r l c)[i]? = some ((List.range l).map fun j => c i j) := by
  unfold tabF
  rw [List.getElem?_map, List.getElem?_range h]
  rfl
theorem rowF_at {l : Nat} {f : Nat → List Int} {j : Nat} (h : j < l) : ((List.range l).map f)[j]? = some (f j) := by
  rw [List.getElem?_map, List.getElem?_range h]
  rfl
def put2 (c : Nat → Nat → List Int) (i j : Nat) (v : List Int) : Nat → Nat → List Int := fun i' j' => if i' = i ∧ j' = j then v else c i' j'
theorem map_set_range {α : Type} (n i : Nat) (f : Nat → α) (v : α) : ((List.range n).map f).set i v = (List.range n).map fun k => if k = i then v else f k := by
  apply List.ext_getElem?
  intro k
  rw [List.getElem?_set, List.getElem?_map, List.getElem?_map, List.length_map, List.length_range]
  by_cases hk : k < n
  · rw [List.getElem?_range hk]
    by_cases e : i = k
    · subst e
      simp [hk]
    · rw [if_neg e]
      have e' : ¬ k = i := fun z => e z.symm
      simp [e']
  · have hn : (List.range n)[k]? = none := by
      rw [List.getElem?_eq_none_iff, List.length_range]
      omega
    rw [hn]
    by_cases e : i = k
    · subst e
      simp [hk]
    · rw [if_neg e]
      rfl
theorem tabF_put (r l : Nat) (c : Nat → Nat → List Int) (i j : Nat) (v : List Int) : (tabF r l c).set i (((List.range l).map fun j => c i j).set j v) = tabF r l (put2 c i j v) := by
  unfold tabF
  rw [map_set_range, map_set_range]
  apply List.map_congr_left
  intro a _
  by_cases e : a = i
  · subst e
    rw [if_pos rfl]
    apply List.map_congr_left
    intro b _
    unfold put2
    by_cases e2 : b = j
    · rw [if_pos e2, if_pos ⟨rfl, e2⟩]
    · rw [if_neg e2, if_neg (fun z => e2 z.2)]
  · rw [if_neg e]
    apply List.map_congr_left
    intro b _
    unfold put2
    rw [if_neg (fun z => e z.1)]
theorem DpAll.set {K : PySem.W.Frag} {H : Hp} : ∀ {vs : List V} {ds : List PyData} {j : Nat} {v : V} {d : PyData}, DpAll K H vs ds → Dp K H v d → DpAll K H (vs.set j v) (ds.set j d)
  | _, _, _, _, _, .nil, _ => .nil
  | _, _, 0, _, _, .cons _ b, h => .cons h b
  | _, _, j + 1, _, _, .cons a b, h => .cons a (DpAll.set (j := j) b h)
end Tab

namespace W2
open PySem PySem.Spec PyProof.Rows L2 Pg Pf Rul Tab
/-- the built-in names that the class's text reads -/
structure Bw (mg : Str → Option Value) : Prop where
  isinstance : mg "isinstance" = none
  bool : mg "bool" = none
  int : mg "int" = none
abbrev s_is_int : Stmt := top  7
theorem sc_is_int : FnScope ["value"] ["value"] (defScope s_is_int) := ⟨rfl, rfl, rfl, by decide +kernel, rfl, by decide +kernel, by decide +kernel⟩
abbrev s_is_number : Stmt := top 8
abbrev N_is_number : List Str := ["value", "low", "high"]
theorem sc_is_number : FnScope N_is_number ["value", "low", "high"] (defScope s_is_number) := ⟨rfl, rfl, rfl, by decide +kernel, rfl, by decide +kernel, by decide +kernel⟩
abbrev s_check_walker : Stmt := top 9
abbrev N_check_walker : List Str := ["value", "walkers"]
theorem sc_check_walker : FnScope N_check_walker ["value", "walkers"] (defScope s_check_walker) := ⟨rfl, rfl, rfl, by decide +kernel, rfl, by decide +kernel, by decide +kernel⟩
abbrev s_with_cell : Stmt := top 14
abbrev N_with_cell : List Str := ["table", "right", "left", "cell", "row"]
theorem sc_with_cell : FnScope N_with_cell ["table", "right", "left", "cell"] (defScope s_with_cell) := ⟨rfl, rfl, rfl, by decide +kernel, rfl, by decide +kernel, by decide +kernel⟩
def spInt : Sp := fun vs H Q _ => ∃ v : Int, vs = [.int v] ∧ Q (.bl true) H
def spNum : Sp := fun vs H Q _ => ∃ v lo hi : Int, vs = [.int v, .int lo, .int hi] ∧ Q (.bl (decide (lo ≤ v) && decide (v ≤ hi))) H
def spChk : Sp := fun vs H Q _ => ∃ v n : Int, vs = [.int v, .int n] ∧ 0 ≤ v ∧ v < n ∧ Q .non H
/-- with_cell(table, right, left, cell) -/
def spCell (K : PySem.W.Frag) : Sp := fun vs H Q _ => ∃ (G : Hp) (t x : Addr) (r l i j : Nat) (c : Nat → Nat → List Int) (v : List Int), vs = [.ref t, .int (i : Nat), .int (j : Nat), .ref x] ∧ Same G H ∧ Dp K G (.ref t) (tabT (tabF r l c)) ∧ i < r ∧ j < l ∧ r ≤ 6 ∧ l ≤ 6 ∧ Dp K G (.ref x) (cellD v) ∧
  ∀ (p : Addr) (G' H' : Hp), Fut G H G' H' → Dp K G' (.ref p) (tabT (tabF r l (put2 c i j v))) → Q (.ref p) H'
section
variable {P : Program} {w : World} {K : PySem.W.Frag} {mg : Str → Option Value} {base : Heap} {f : Addr} {fd : FuncData}
theorem ok_is_int (T : Bw mg) (F : Fun K "is_int" "is_int" s_is_int f fd) : FnOk P w K mg base CX0 1 f fd ["value"] spInt := by
  refine F.ok sc_is_int (fun vs H Q E h => ?_) (fun cdv A outer s H vs Q E hr h => ?_)
  · obtain ⟨v, rfl, _⟩ := h
    rfl
  · obtain ⟨v, rfl, k⟩ := h
    refine ⟨_, (pss_one (ps_ret (pe_and (pe_callB call_isi (by rfl) T.isinstance (by decide +kernel) (pa_cons (pv 0) (pa_cons (pe_bltn (v := .ty "int") (by rfl) T.int (by decide +kernel) rfl) pa_nil))) (pe_one (pe_not (pe_callB call_isi (by rfl) T.isinstance (by decide +kernel) (pa_cons (pv 0) (pa_cons (pe_bltn (v := .ty "bool") (by rfl) T.bool (by decide +kernel) rfl) pa_nil)))))))), ?_⟩
    refine ⟨_, rfl, _, _, _, _, true, rfl, .ty _, .base (.int _), kit_ty (by decide +kernel), _, rfl, ?_⟩
    refine iteT ?_
    refine ⟨_, rfl, _, _, _, _, false, rfl, .ty _, .base (.int _), kit_ty (by decide +kernel), _, rfl, ?_⟩
    exact k
theorem ok_is_number (cI : CalO P w K mg base 1 "is_int" spInt) (F : Fun K "is_number" "is_number" s_is_number f fd) : FnOk P w K mg base CX0 2 f fd ["value", "low", "high"] spNum := by
  refine F.ok sc_is_number (fun vs H Q E h => ?_) (fun cdv A outer s H vs Q E hr h => ?_)
  · obtain ⟨v, lo, hi, rfl, _⟩ := h
    rfl
  · obtain ⟨v, lo, hi, rfl, k⟩ := h
    refine ⟨_, (pss_one (ps_ret (pe_and (pe_cO cI hr (by decide) rfl (pa_cons (pv 0) pa_nil)) (pe_one (pe_chain op_le op_le (pv 1) (pv 0) (pv 2)))))), ?_⟩
    refine ⟨_, rfl, v, rfl, _, rfl, ?_⟩
    refine iteT ?_
    refine ⟨_, rfl, _, rfl, _, _, rfl, rfl, _, rfl, ?_⟩
    by_cases h1 : lo ≤ v
    · rw [decide_eq_true h1] at k ⊢
      refine iteT ?_
      refine ⟨_, rfl, _, _, rfl, rfl, ?_⟩
      rw [Bool.true_and] at k
      exact k
    · rw [decide_eq_false h1] at k ⊢
      refine iteF ?_
      exact k
theorem ok_check_walker (cN : CalO P w K mg base 2 "is_number" spNum) (F : Fun K "check_walker" "check_walker" s_check_walker f fd) : FnOk P w K mg base CX0 3 f fd ["value", "walkers"] spChk := by
  refine F.ok sc_check_walker (fun vs H Q E h => ?_) (fun cdv A outer s H vs Q E hr h => ?_)
  · obtain ⟨v, n, rfl, _⟩ := h
    rfl
  · obtain ⟨v, n, rfl, h1, h2, k⟩ := h
    refine ⟨_, (pss_one (ps_if (pt_not (pt_val (pe_cO cN hr (by decide) rfl (pa_cons (pv 0) (pa_cons pe_int (pa_cons (pe_op op_sub (pv 1) pe_int) pa_nil)))))) (pss_one ps_never) pss_nil)), ?_⟩
    refine ⟨_, rfl, _, rfl, _, _, rfl, rfl, v, 0, n - 1, rfl, _, rfl, ?_⟩
    rw [decide_eq_true h1, decide_eq_true (show v ≤ n - 1 by omega)]
    refine iteF ?_
    exact k
theorem ok_with_cell (F : Fun K "with_cell" "with_cell" s_with_cell f fd) : FnOk P w K mg base CX0 2 f fd ["table", "right", "left", "cell"] (spCell K) := by
  refine F.ok sc_with_cell (fun vs H Q E h => ?_) (fun cdv A outer s H vs Q E hr h => ?_)
  · obtain ⟨G, t, x, r, l, i, j, c, v, rfl, _⟩ := h
    rfl
  · obtain ⟨G, t, x, r, l, i, j, c, v, rfl, sG, hd, hi, hj, hr6, hl6, hx, k⟩ := h
    have nd := sc_with_cell.nd
    refine ⟨_, (pss_cons (ps_set (i := 4) nd rfl (Or.inl rfl) (pe_op op_catA (pe_op op_catA (pe_slice sl_tupA (pe_ix ix_tup (pv 0) (pv 1) (fun _ _ => rfl)) po_none (po_some (pv 2))) (pe_tup (pa_cons (pv 3) pa_nil))) (pe_slice sl_tupA (pe_ix ix_tup (pv 0) (pv 1) (fun _ _ => rfl)) (po_some (pe_op op_add (pv 2) pe_int)) po_none)))
      (pss_one (ps_ret (pe_op op_catA (pe_op op_catA (pe_slice sl_tupA (pv 0) po_none (po_some (pv 1))) (pe_tup (pa_cons (pv 4) pa_nil))) (pe_slice sl_tupA (pv 0) (po_some (pe_op op_add (pv 1) pe_int)) po_none))))), ?_⟩
    obtain ⟨xs, hS, hA⟩ : ∃ xs, SqT K G t xs ∧ DpAll K G xs ((tabF r l c).map rowT) := by
      cases hd with
      | tup a b => exact ⟨_, a, b⟩
    obtain ⟨y, hy, hdy⟩ := DpAll.at hA (i := i) (d := rowT ((List.range l).map fun j => c i j)) (by rw [List.getElem?_map, tabF_at hi] <;> rfl)
    obtain ⟨ty, rfl, ys, hS2, hA2⟩ : ∃ ty, y = .ref ty ∧ ∃ ys, SqT K G ty ys ∧ DpAll K G ys (((List.range l).map fun j => c i j).map cellD) := by
      cases hdy with
      | tup a b => exact ⟨_, rfl, _, a, b⟩
    have lx : xs.length = r := by rw [DpAll.len hA, List.length_map, tabF_len]
    have ly : ys.length = l := by rw [DpAll.len hA2, List.length_map, List.length_map, List.length_range]
    -- row = table[right][:left] + (cell,) + table[right][left + 1:]
    refine ⟨_, rfl, _, rfl, t, _, _, _, rfl, rfl, Evl.ex_t sG hS, atI_nat hy, _, rfl, _, rfl, slA sG hS2 fun p1 G1 H1 f1 h1 => ?_⟩
    rw [cut_to _ _ (by omega)] at h1
    refine ⟨_, rfl, (by show 1 ≤ sizeLine; decide), fun q1 n1 => ?_⟩
    have f2 := f1.trans (Fut.new (o := .tup [.ref x]) f1.s n1)
    refine catA f2.s (Evl.ex_t (Fut.new (o := .tup [.ref x]) f1.s n1).g h1) (Evl.st_of upd_same) (by rw [List.length_take]; show _ + 1 ≤ 1000; omega) fun p2 G2 H2 f3 h2 => ?_
    have g2 := f2.trans f3
    refine ⟨_, rfl, _, rfl, t, _, _, _, rfl, rfl, Evl.ex_t (g2.g.trans g2.s) hS, atI_nat hy, _, rfl, _, _, rfl, rfl, _, rfl, ?_⟩
    dsimp only [tNoPart]
    refine slA (lo := some (((j : Nat) : Int) + 1)) (hi := none) g2.s (Evl.ex_t g2.g hS2) fun p3 G3 H3 f4 h3 => ?_
    rw [show ((j : Nat) : Int) + 1 = ((j + 1 : Nat) : Int) by omega, cut_from _ _ (by omega)] at h3
    refine catA f4.s (Evl.ex_t f4.g h2) h3 (by rw [List.length_append, List.length_take, List.length_drop]; show _ + 1 + _ ≤ 1000; omega) fun p4 G4 H4 f5 h4 => ?_
    rw [set_cut _ _ _ (by omega)] at h4
    have g4 := (g2.trans f4).trans f5
    -- the table
    refine ⟨_, rfl, _, rfl, _, rfl, slA g4.s (Evl.ex_t g4.g hS) fun p5 G5 H5 f6 h5 => ?_⟩
    rw [cut_to _ _ (by omega)] at h5
    refine ⟨_, rfl, (by show 1 ≤ sizeLine; decide), fun q2 n2 => ?_⟩
    have f7 := f6.trans (Fut.new (o := .tup [.ref p4]) f6.s n2)
    refine catA f7.s (Evl.ex_t (Fut.new (o := .tup [.ref p4]) f6.s n2).g h5) (Evl.st_of upd_same) (by rw [List.length_take]; show _ + 1 ≤ 1000; omega) fun p6 G6 H6 f8 h6 => ?_
    have g6 := (g4.trans f7).trans f8
    refine ⟨_, rfl, _, rfl, _, _, rfl, rfl, _, rfl, ?_⟩
    dsimp only [tNoPart]
    refine slA (lo := some (((i : Nat) : Int) + 1)) (hi := none) g6.s (Evl.ex_t g6.g hS) fun p7 G7 H7 f9 h7 => ?_
    rw [show ((i : Nat) : Int) + 1 = ((i + 1 : Nat) : Int) by omega, cut_from _ _ (by omega)] at h7
    refine catA f9.s (Evl.ex_t f9.g h6) h7 (by rw [List.length_append, List.length_take, List.length_drop]; show _ + 1 + _ ≤ 1000; omega) fun p8 G8 H8 f10 h8 => ?_
    rw [set_cut _ _ _ (by omega)] at h8
    have g8 := (g6.trans f9).trans f10
    have e48 : Same G4 G8 := ((f7.g.trans f8.g).trans f9.g).trans f10.g
    refine k p8 G8 H8 g8 ?_
    unfold tabT
    rw [← tabF_put, List.map_set]
    refine .tup h8 (DpAll.set (DpAll.mono g8.g _ _ hA) ?_)
    unfold rowT
    rw [List.map_set]
    exact .tup (Evl.ex_t e48 h4) (DpAll.mono e48 _ _ (DpAll.set (DpAll.mono g4.g _ _ hA2) (Dp.mono g4.g _ _ hx)))
end
end W2

namespace W2
open PySem PySem.Spec PyProof.Rows L2 Pg Pf Rul Tab
/-- the class Way as the top has made it -/
structure Wt (K : PySem.W.Frag) (mg : Str → Option Value) (C : Addr) : Prop where
  cl : Cls K C
  nR : NoAttr K C "_rights"
  nL : NoAttr K C "_lefts"
  nP : NoAttr K C "_places"
  nT : NoAttr K C "_table"
  mgC : mg "Way" = some (.ref C)
  rd : ∃ mc t6 t12, ClX.CRead K C mc ∧ ClX.CVal K C mc "MAX_WALKERS" (.int 6) (.int 6 t6) ∧ ClX.CVal K C mc "MAX_PLACES" (.int 12) (.int 12 t12)
theorem nrl : ¬ (("_rights" : Str) = "_lefts") := by decide +kernel
theorem nrp : ¬ (("_rights" : Str) = "_places") := by decide +kernel
theorem nrt : ¬ (("_rights" : Str) = "_table") := by decide +kernel
theorem nlp : ¬ (("_lefts" : Str) = "_places") := by decide +kernel
theorem nlt : ¬ (("_lefts" : Str) = "_table") := by decide +kernel
theorem npt : ¬ (("_places" : Str) = "_table") := by decide +kernel
/-- its attributes, in the order in which they are stored -/
def wf (r l k : V) (t : V) : List (Str × V) := putF "_table" t (putF "_places" k (putF "_lefts" l (putF "_rights" r [])))
theorem wf_eq (r l k t : V) : wf r l k t = ([("_rights", r), ("_lefts", l), ("_places", k), ("_table", t)] : List (Str × V)) := by
  unfold wf
  simp only [putF, if_neg nrl, if_neg nrp, if_neg nrt, if_neg nlp, if_neg nlt, if_neg npt]
theorem wf_r (r l k t : V) : (wf r l k t).lookup ("_rights" : Str) = some r := by
  unfold wf
  rw [lookup_putF, if_neg nrt, lookup_putF, if_neg nrp, lookup_putF, if_neg nrl, lookup_putF, if_pos rfl]
theorem wf_l (r l k t : V) : (wf r l k t).lookup ("_lefts" : Str) = some l := by
  unfold wf
  rw [lookup_putF, if_neg nlt, lookup_putF, if_neg nlp, lookup_putF, if_pos rfl]
theorem wf_k (r l k t : V) : (wf r l k t).lookup ("_places" : Str) = some k := by
  unfold wf
  rw [lookup_putF, if_neg npt, lookup_putF, if_pos rfl]
theorem wf_t (r l k t : V) : (wf r l k t).lookup ("_table" : Str) = some t := by
  unfold wf
  rw [lookup_putF, if_pos rfl]
theorem wf_no (r l k t : V) {m : Str} (h1 : ¬ m = "_table") (h2 : ¬ m = "_places") (h3 : ¬ m = "_lefts") (h4 : ¬ m = "_rights") : (wf r l k t).lookup m = none := by
  unfold wf
  rw [lookup_putF, if_neg h1, lookup_putF, if_neg h2, lookup_putF, if_neg h3, lookup_putF, if_neg h4]
  rfl
theorem wf_put (r l k t t' : V) : putF "_table" t' (wf r l k t) = wf r l k t' := by
  rw [wf_eq, wf_eq]
  simp only [putF, if_neg nrt, if_neg nlt, if_neg npt, if_pos]
/-- a way stands at a: its numbers, its allowed places -/
structure WayAt (K : PySem.W.Frag) (C : Addr) (G : Hp) (a : Addr) (r l k : Nat) (c : Nat → Nat → List Int) : Prop where
  ob : ∃ dx t, G a = some (.ins C dx (wf (.int (r : Nat)) (.int (l : Nat)) (.int (k : Nat)) (.ref t))) ∧ Dp K G (.ref t) (tabT (tabF r l c))
  r1 : 1 ≤ r
  r2 : r ≤ 6
  l1 : 1 ≤ l
  l2 : l ≤ 6
  k1 : 1 ≤ k
  k2 : k ≤ 12
  ok : ∀ i j, i < r → j < l → Cell (k : Int) (c i j)
theorem WayAt.mono {K : PySem.W.Frag} {C : Addr} {G G' : Hp} {a : Addr} {r l k : Nat} {c : Nat → Nat → List Int} (W : WayAt K C G a r l k c) (e : Same G G') : WayAt K C G' a r l k c :=
  ⟨let ⟨dx, t, h, d⟩ := W.ob; ⟨dx, t, e _ _ h, Dp.mono e _ _ d⟩, W.r1, W.r2, W.l1, W.l2, W.k1, W.k2, W.ok⟩
abbrev s_wrong_part : Stmt := top 12
abbrev N_wrong_part : List Str := ["rights", "lefts", "places"]
theorem sc_wrong_part : FnScope N_wrong_part ["rights", "lefts", "places"] (defScope s_wrong_part) := ⟨rfl, rfl, rfl, by decide +kernel, rfl, by decide +kernel, by decide +kernel⟩
abbrev s_Way_init : Stmt := inClass (top 11) 2
abbrev N_Way_init : List Str := ["self", "rights", "lefts", "places", "part"]
theorem sc_Way_init : FnScope N_Way_init ["self", "rights", "lefts", "places"] (defScope s_Way_init) := ⟨rfl, rfl, rfl, by decide +kernel, rfl, by decide +kernel, by decide +kernel⟩
def spWrong : Sp := fun vs H Q _ => ∃ r l k : Nat, vs = [.int (r : Nat), .int (l : Nat), .int (k : Nat)] ∧ 1 ≤ r ∧ r ≤ 6 ∧ 1 ≤ l ∧ l ≤ 6 ∧ 1 ≤ k ∧ k ≤ 12 ∧ Q .non H
/-- __init__ of a way: all places are allowed; G: what is known for good, without the new object -/
def spInit (K : PySem.W.Frag) (C : Addr) : Sp := fun vs H Q _ => ∃ (G : Hp) (a dx : Addr) (r l k : Nat), vs = [.ref a, .int (r : Nat), .int (l : Nat), .int (k : Nat)] ∧ Same G H ∧ G a = none ∧ H a = some (.ins C dx []) ∧ 1 ≤ r ∧ r ≤ 6 ∧ 1 ≤ l ∧ l ≤ 6 ∧ 1 ≤ k ∧ k ≤ 12 ∧
  ∀ (t : Addr) (G' H' : Hp), Same G G' → Same G' H' → (∀ p o, H p = some o → p ≠ a → H' p = some o) → (∀ p, G' p ≠ none → G p ≠ none ∨ H p = none) → G' a = none →
    H' a = some (.ins C dx (wf (.int (r : Nat)) (.int (l : Nat)) (.int (k : Nat)) (.ref t))) → Dp K G' (.ref t) (tabT (tabF r l fun _ _ => rangeI k)) → Q .non H'
section
variable {P : Program} {w : World} {K : PySem.W.Frag} {mg : Str → Option Value} {base : Heap} {f C : Addr} {fd : FuncData}
theorem ok_wrong (T : Wt K mg C) (cN : CalO P w K mg base 2 "is_number" spNum) (F : Fun K "wrong_part" "wrong_part" s_wrong_part f fd) : FnOk P w K mg base CX0 3 f fd ["rights", "lefts", "places"] spWrong := by
  refine F.ok sc_wrong_part (fun vs H Q E h => ?_) (fun cdv A outer s H vs Q E hr h => ?_)
  · obtain ⟨r, l, k, rfl, _⟩ := h
    rfl
  · obtain ⟨r, l, k, rfl, r1, r2, l1, l2, k1, k2, q⟩ := h
    obtain ⟨mc, t6, t12, hrd, hw, hp⟩ := T.rd
    refine ⟨_, (pss_cons (ps_if (pt_not (pt_val (pe_cO cN hr (by decide) rfl (pa_cons (pv 0) (pa_cons pe_int (pa_cons (ClX.pe_cval (pe_glob (v := .ref C) (by rfl) T.mgC rfl)) pa_nil)))))) (pss_one (ps_ret pe_str)) pss_nil)
      (pss_cons (ps_if (pt_not (pt_val (pe_cO cN hr (by decide) rfl (pa_cons (pv 1) (pa_cons pe_int (pa_cons (ClX.pe_cval (pe_glob (v := .ref C) (by rfl) T.mgC rfl)) pa_nil)))))) (pss_one (ps_ret pe_str)) pss_nil)
      (pss_cons (ps_if (pt_not (pt_val (pe_cO cN hr (by decide) rfl (pa_cons (pv 2) (pa_cons pe_int (pa_cons (ClX.pe_cval (pe_glob (v := .ref C) (by rfl) T.mgC rfl)) pa_nil)))))) (pss_one (ps_ret pe_str)) pss_nil)
      (pss_one (ps_ret pe_non))))), ?_⟩
    refine ⟨_, rfl, C, mc, _, _, rfl, hrd, hw, _, _, _, rfl, _, rfl, ?_⟩
    rw [decide_eq_true (show (1 : Int) ≤ (r : Nat) by omega), decide_eq_true (show ((r : Nat) : Int) ≤ 6 by omega)]
    refine iteF ?_
    refine ⟨_, rfl, C, mc, _, _, rfl, hrd, hw, _, _, _, rfl, _, rfl, ?_⟩
    rw [decide_eq_true (show (1 : Int) ≤ (l : Nat) by omega), decide_eq_true (show ((l : Nat) : Int) ≤ 6 by omega)]
    refine iteF ?_
    refine ⟨_, rfl, C, mc, _, _, rfl, hrd, hp, _, _, _, rfl, _, rfl, ?_⟩
    rw [decide_eq_true (show (1 : Int) ≤ (k : Nat) by omega), decide_eq_true (show ((k : Nat) : Int) ≤ 12 by omega)]
    refine iteF ?_
    exact q
theorem rep_one {α : Type} (n : Nat) (x : α) : (List.replicate n [x]).flatten = List.replicate n x := by
  induction n with
  | zero => rfl
  | succ n ih =>
    rw [List.replicate_succ, List.flatten_cons, ih]
    rfl
theorem DpAll.rep {K : PySem.W.Frag} {H : Hp} {v : V} {d : PyData} (h : Dp K H v d) : ∀ n, DpAll K H (List.replicate n v) (List.replicate n d)
  | 0 => .nil
  | n + 1 => .cons h (DpAll.rep h n)
theorem map_range_rep {α : Type} (n : Nat) (x : α) : (List.range n).map (fun _ => x) = List.replicate n x := by
  apply List.ext_getElem?
  intro i
  rw [List.getElem?_map, List.getElem?_replicate]
  by_cases h : i < n
  · rw [List.getElem?_range h, if_pos h]
    rfl
  · rw [if_neg h, List.getElem?_eq_none_iff.mpr (by rw [List.length_range]; omega)]
    rfl
theorem ok_init (B : Bt mg) (T : Wt K mg C) (cW : CalO P w K mg base 3 "wrong_part" spWrong) (F : Fun K "__init__" "Way.__init__" s_Way_init f fd) : FnOk P w K mg base CX0 4 f fd ["self", "rights", "lefts", "places"] (spInit K C) := by
  refine F.ok sc_Way_init (fun vs H Q E h => ?_) (fun cdv A outer s H vs Q E hr h => ?_)
  · obtain ⟨G, a, dx, r, l, k, rfl, _⟩ := h
    rfl
  · obtain ⟨G, a, dx, r, l, k, rfl, sG, ga, ha, r1, r2, l1, l2, k1, k2, q⟩ := h
    have nd := sc_Way_init.nd
    refine ⟨_, (pss_cons (ps_set (i := 4) nd rfl (Or.inl rfl) (pe_cO cW hr (by decide) rfl (pa_cons (pv 1) (pa_cons (pv 2) (pa_cons (pv 3) pa_nil)))))
    (pss_cons (ps_if (pt_cmpR op_notN (pv 4) pe_non (nomark _)) (pss_one ps_never) pss_nil)
    (pss_cons (ps_fld (pv 0) (pv 1) rfl)
    (pss_cons (ps_fld (pv 0) (pv 2) rfl)
    (pss_cons (ps_fld (pv 0) (pv 3) rfl)
    (pss_one (ps_fld (pv 0) (pe_op op_repA (pe_tup (pa_cons (pe_op op_repA (pe_tup (pa_cons (pe_tupRg rfl (by rfl) B.tuple (prg_1 (by rfl) B.range (pv 3))) pa_nil)) (pv 2)) pa_nil)) (pv 1)) rfl))))))), ?_⟩
    refine ⟨_, rfl, _, rfl, _, rfl, r, l, k, rfl, r1, r2, l1, l2, k1, k2, ?_⟩
    refine ⟨_, rfl, rfl, _, rfl, ?_⟩
    refine iteF ?_
    refine ⟨_, rfl, _, rfl, a, C, dx, _, rfl, ha, T.cl, T.nR, (by show 0 < 1000; decide), ?_⟩
    refine ⟨_, rfl, _, rfl, a, C, dx, _, rfl, upd_same, T.cl, T.nL, (by show 1 < 1000; decide), ?_⟩
    refine ⟨_, rfl, _, rfl, a, C, dx, _, rfl, upd_same, T.cl, T.nP, (by simp only [putF, if_neg nrl]; show 2 < 1000; decide), ?_⟩
    rw [upd_upd, upd_upd]
    have hn : ∀ p, (upd H a (.ins C dx (putF "_places" (.int (k : Nat)) (putF "_lefts" (.int (l : Nat)) (putF "_rights" (.int (r : Nat)) []))))) p = none → H p = none := fun p e => by
      by_cases z : p = a
      · rw [z, upd_same] at e
        cases e
      · rw [upd_ne z] at e
        exact e
    have hk : ∀ p o, H p = some o → p ≠ a → (upd H a (.ins C dx (putF "_places" (.int (k : Nat)) (putF "_lefts" (.int (l : Nat)) (putF "_rights" (.int (r : Nat)) []))))) p = some o := fun p o e z => by rw [upd_ne z]; exact e
    have sG3 : Same G (upd H a (.ins C dx (putF "_places" (.int (k : Nat)) (putF "_lefts" (.int (l : Nat)) (putF "_rights" (.int (r : Nat)) []))))) := Fut.mut sG ga
    have ha3 : (upd H a (.ins C dx (putF "_places" (.int (k : Nat)) (putF "_lefts" (.int (l : Nat)) (putF "_rights" (.int (r : Nat)) []))))) a = some (.ins C dx (putF "_places" (.int (k : Nat)) (putF "_lefts" (.int (l : Nat)) (putF "_rights" (.int (r : Nat)) [])))) := upd_same
    generalize (upd H a (.ins C dx (putF "_places" (.int (k : Nat)) (putF "_lefts" (.int (l : Nat)) (putF "_rights" (.int (r : Nat)) []))))) = H3 at hn hk sG3 ha3 ⊢
    refine ⟨_, rfl, _, rfl, RgOk.of_le (by decide) (by omega) (by decide) (by omega), fun t1 n1 => ?_⟩
    rw [rangeI_V]
    have f1 := Fut.new (o := .tup ((rangeI (k : Nat)).map V.int)) sG3 n1
    have d1 : Dp K (upd G t1 (.tup ((rangeI (k : Nat)).map V.int))) (.ref t1) (cellD (rangeI (k : Nat))) := dp_cell upd_same
    refine ⟨(by show 1 ≤ sizeLine; decide), fun t2 n2 => ⟨_, rfl, ?_⟩⟩
    have f2 := Fut.new (o := .tup [.ref t1]) f1.s n2
    refine repA f2.s (Evl.st_of upd_same) (by simp) (by omega) (by omega) (by show 1 ≤ 1000; decide) fun t3 G3 H5 f3 s3 => ?_
    rw [rep_one, show ((l : Nat) : Int).toNat = l by omega] at s3
    have d3 : Dp K G3 (.ref t3) (rowT (List.replicate l (rangeI (k : Nat)))) := by
      unfold rowT
      rw [List.map_replicate]
      exact .tup s3 (DpAll.rep (Dp.mono (f2.g.trans f3.g) _ _ d1) l)
    refine ⟨(by show 1 ≤ sizeLine; decide), fun t4 n4 => ⟨_, rfl, ?_⟩⟩
    have f4 := Fut.new (o := .tup [.ref t3]) f3.s n4
    refine repA f4.s (Evl.st_of upd_same) (by simp) (by omega) (by omega) (by show 1 ≤ 1000; decide) fun t5 G5 H6 f5 s5 => ?_
    rw [rep_one, show ((r : Nat) : Int).toNat = r by omega] at s5
    have d5 : Dp K G5 (.ref t5) (tabT (tabF r l fun _ _ => rangeI (k : Nat))) := by
      unfold tabF
      rw [map_range_rep, map_range_rep]
      unfold tabT
      rw [List.map_replicate]
      exact .tup s5 (DpAll.rep (Dp.mono (f4.g.trans f5.g) _ _ d3) r)
    have fA := (((f1.trans f2).trans f3).trans f4).trans f5
    have gA : G5 a = none := by
      cases e : G5 a with
      | none => rfl
      | some o =>
        rcases fA.n a (by rw [e]; simp) with z | z
        · exact absurd ga z
        · rw [ha3] at z
          cases z
    refine ⟨_, rfl, a, C, dx, _, rfl, fA.h _ _ ha3, T.cl, T.nT, (by simp only [putF, if_neg nrl, if_neg nrp, if_neg nlp]; show 3 < 1000; decide), ?_⟩
    exact q t5 G5 _ fA.g (Fut.mut fA.s gA) (fun p o e z => by rw [upd_ne z]; exact fA.h _ _ (hk p o e z)) (fun p e => (fA.n p e).imp id (hn p)) gA upd_same d5
end
end W2

namespace W2
open PySem PySem.Spec PyProof.Rows L2 Pg Pf Rul Tab
/-- the property of the class at C that hands back the attribute fld -/
structure Pr (P : Program) (w : World) (K : PySem.W.Frag) (mg : Str → Option Value) (base : Heap) (C : Addr) (f fld : Str) : Prop where
  ex : ∃ (p g : Addr) (fd : FuncData), Cls K C ∧ PropOf K C f p g ∧ FnOk P w K mg base CX0 1 g fd ["self"] (getSp C fld) ∧ Binds K fd ["self"] []
theorem pe_pr {X : Cx} {j : Nat} {C : Addr} {f fld : Str} {e : Expr} {ta : TE} {pos : Pos} (c : Pr X.prog X.w X.K X.mg X.base C f fld) (hr : Room j X.A) (hk : 2 ≤ j) (he : PE X e ta) (hab : attributeBase e f X.env (eval e X.env) = eval e X.env := by rfl) :
    PE X (.Attribute e f pos) (tProp C (getSp C fld) [] E0 ta) := by
  obtain ⟨p, g, fd, cl, hp, F, b⟩ := c.ex
  exact pe_prop he cl hp F (hr.mono hk) b .nil pass0 hab
/-- reading a property of a way -/
theorem rd_pr {C a dx : Addr} {fld : Str} {fs : List (Str × V)} {H : Hp} {v : V} {Q : VK} {E : XK} (h : H a = some (.ins C dx fs)) (l : fs.lookup fld = some v) (q : Q v H) : ∃ a' dx' fs', V.ref a = .ref a' ∧ H a' = some (.ins C dx' fs') ∧ getSp C fld (.ref a' :: []) H Q E :=
  ⟨a, dx, fs, rfl, h, a, dx, fs, v, rfl, h, l, q⟩
def pairD (p : Nat × Nat) : PyData := .tuple [.int (p.1 : Nat), .int (p.2 : Nat)]
def pairsL (r l : Nat) : List (Nat × Nat) := (List.range r).flatMap fun i => (List.range l).map fun j => (i, j)
theorem pairs_step (r l : Nat) : pairsL (r + 1) l = pairsL r l ++ (List.range l).map fun j => (r, j) := by
  unfold pairsL
  rw [List.range_succ, List.flatMap_append]
  simp
theorem pairs_len (r l : Nat) : (pairsL r l).length = r * l := by
  induction r with
  | zero => simp [pairsL]
  | succ r ih =>
    rw [pairs_step, List.length_append, ih, List.length_map, List.length_range, Nat.succ_mul]
theorem dp0 {K : PySem.W.Frag} {H : Hp} (z : Int) : Dp K H (.int (0 + z)) (.int z) := by
  rw [Int.zero_add]
  exact .int _
abbrev s_pairs_of : Stmt := top 15
abbrev N_pairs_of : List Str := ["way", "right", "left"]
theorem sc_pairs_of : FnScope N_pairs_of ["way"] (defScope s_pairs_of) := ⟨rfl, rfl, rfl, by decide +kernel, rfl, by decide +kernel, by decide +kernel⟩
def spPairs (K : PySem.W.Frag) (C : Addr) : Sp := fun vs H Q _ => ∃ (G : Hp) (a : Addr) (r l k : Nat) (c : Nat → Nat → List Int), vs = [.ref a] ∧ Same G H ∧ WayAt K C G a r l k c ∧
  ∀ (p : Addr) (G' H' : Hp), Fut G H G' H' → Dp K G' (.ref p) (.list ((pairsL r l).map pairD)) → Q (.ref p) H'
section
variable {P : Program} {w : World} {K : PySem.W.Frag} {mg : Str → Option Value} {base : Heap} {f C : Addr} {fd : FuncData}
theorem ok_pairs (B : Bt mg) (pR : Pr P w K mg base C "rights" "_rights") (pL : Pr P w K mg base C "lefts" "_lefts") (F : Fun K "pairs_of" "pairs_of" s_pairs_of f fd) : FnOk P w K mg base CX0 4 f fd ["way"] (spPairs K C) := by
  refine F.ok sc_pairs_of (fun vs H Q E h => ?_) (fun cdv A outer s H vs Q E hr h => ?_)
  · obtain ⟨G, a, r, l, k, c, rfl, _⟩ := h
    rfl
  · obtain ⟨G, a, r, l, k, c, rfl, sG, W, q⟩ := h
    have nd := sc_pairs_of.nd
    refine ⟨_, (pss_one (ps_ret (pe_lc2 (own := [("right", 1), ("left", 2)]) (vs1 := [2]) rfl nd (pi_range1 rfl B.range (pa_cons (pe_pr pR hr (by decide) (pv 0)) pa_nil)) (blkOk_by (N := N_pairs_of) (sc := defScope s_pairs_of) (by decide +kernel)) (by decide)
      (fun _ _ _ _ _ => (pg_name (i := 1) nd rfl (Or.inl rfl))) (fun _ _ _ _ _ => pts_nil) (fun _ _ _ _ _ => pi_range1 rfl B.range (pa_cons (pe_pr pL hr (by decide) (pv 0)) pa_nil)) (fun _ _ _ _ _ => (pg_name (i := 2) nd rfl (Or.inl rfl))) (fun _ _ _ _ _ => pts_nil) (fun _ _ _ _ _ => (pe_tup (pa_cons (pv 1) (pa_cons (pv 2) pa_nil))))))), ?_⟩
    obtain ⟨dx, t, ha, hd⟩ := W.ob
    have r2 := W.r2
    have l2 := W.l2
    refine ⟨_, rfl, rd_pr (sG _ _ ha) (wf_r _ _ _ _) ⟨(r : Nat), rfl, by omega, by omega, fun D hD => ?_⟩⟩
    have gD : G D = none := sG.free hD
    rw [show ((r : Nat) : Int).toNat = r by omega]
    refine ⟨fun i m H2 => m = r - i ∧ i ≤ r ∧ ∃ (G2 : Hp) (vs : List V), H2 D = some (.lst vs) ∧ DpAll K G2 vs ((pairsL i l).map pairD) ∧ Same G G2 ∧ Same G2 H2 ∧ Same H H2 ∧ (∀ p, G2 p ≠ none → G p ≠ none ∨ H p = none) ∧ G2 D = none,
      ⟨r, by simp, Nat.zero_le _, G, [], upd_same, .nil, Same.refl _, Fut.mut sG gD, Same.new hD, fun p e => .inl e, gD⟩, ?_⟩
    rintro i m H2 ⟨rfl, hi, G2, vs, h2, d2, gg, gh, hh, gn, g2D⟩
    by_cases hir : i < r
    · refine .inr ⟨hir, fun H3 => i + 1 ≤ r ∧ ∃ (G2 : Hp) (vs : List V), H3 D = some (.lst vs) ∧ DpAll K G2 vs ((pairsL (i + 1) l).map pairD) ∧ Same G G2 ∧ Same G2 H3 ∧ Same H H3 ∧ (∀ p, G2 p ≠ none → G p ≠ none ∨ H p = none) ∧ G2 D = none, fun H3 h => ⟨r - (i + 1), by omega, rfl, h⟩, ?_⟩
      rintro x H3 ⟨rfl, rfl⟩
      refine ⟨rfl, ?_⟩
      refine ⟨_, rfl, rd_pr (hh _ _ (sG _ _ ha)) (wf_l _ _ _ _) ⟨(l : Nat), rfl, by omega, by omega, ?_⟩⟩
      rw [show ((l : Nat) : Int).toNat = l by omega]
      refine ⟨fun j m H2 => m = l - j ∧ j ≤ l ∧ ∃ (G2 : Hp) (vs : List V), H2 D = some (.lst vs) ∧ DpAll K G2 vs ((pairsL i l ++ (List.range j).map fun j => (i, j)).map pairD) ∧ Same G G2 ∧ Same G2 H2 ∧ Same H H2 ∧ (∀ p, G2 p ≠ none → G p ≠ none ∨ H p = none) ∧ G2 D = none,
        ⟨l, by simp, Nat.zero_le _, G2, vs, h2, by simpa using d2, gg, gh, hh, gn, g2D⟩, ?_⟩
      rintro j m H4 ⟨rfl, hj, G4, ws, h4, d4, gg4, gh4, hh4, gn4, g4D⟩
      by_cases hjl : j < l
      · refine .inr ⟨hjl, fun H3 => j + 1 ≤ l ∧ ∃ (G2 : Hp) (vs : List V), H3 D = some (.lst vs) ∧ DpAll K G2 vs ((pairsL i l ++ (List.range (j + 1)).map fun j => (i, j)).map pairD) ∧ Same G G2 ∧ Same G2 H3 ∧ Same H H3 ∧ (∀ p, G2 p ≠ none → G p ≠ none ∨ H p = none) ∧ G2 D = none, fun H3 h => ⟨l - (j + 1), by omega, rfl, h⟩, ?_⟩
        rintro x H5 ⟨rfl, rfl⟩
        refine ⟨rfl, ?_⟩
        refine ⟨_, rfl, _, rfl, (by show 2 ≤ sizeLine; decide), fun p hp => ?_⟩
        have fn := Fut.new (o := .tup [.int (0 + (i : Nat)), .int (0 + (j : Nat))]) gh4 hp
        have npD : D ≠ p := ne_of_none h4 hp
        have wl : ws.length ≤ 1000 := by
          rw [DpAll.len d4, List.length_map, List.length_append, pairs_len, List.length_map, List.length_range]
          have := Nat.mul_le_mul (show i ≤ 6 by omega) (show l ≤ 6 by omega)
          omega
        have g5D : (upd G4 p (.tup [.int (0 + (i : Nat)), .int (0 + (j : Nat))])) D = none := by rw [upd_ne npD]; exact g4D
        refine ⟨ws, by rw [upd_ne npD]; exact h4, small1000 wl, by omega, _, _, upd_same, ?_, gg4.trans fn.g, Fut.mut fn.s g5D, Fut.mut (hh4.trans fn.h) hD, fun p' e => ?_, g5D⟩
        · have e : (pairsL i l ++ (List.range (j + 1)).map fun j => (i, j)).map pairD = (pairsL i l ++ (List.range j).map fun j => (i, j)).map pairD ++ [pairD (i, j)] := by simp [List.range_succ]
          rw [e]
          refine DpAll.snoc (DpAll.mono fn.g _ _ d4) ?_
          show Dp K _ _ (.tuple [.int (i : Nat), .int (j : Nat)])
          refine .tup (Evl.st_of upd_same) (.cons (dp0 _) (.cons (dp0 _) .nil))
        · rcases fn.n p' e with z | z
          · exact gn4 p' z
          · exact .inr (hh4.free z)
      · refine .inl ⟨Nat.le_of_not_lt hjl, by omega, G4, ws, h4, ?_, gg4, gh4, hh4, gn4, g4D⟩
        rw [pairs_step]
        have e : j = l := by omega
        rw [← e]
        rw [e] at d4 ⊢
        exact d4
    · refine .inl ⟨Nat.le_of_not_lt hir, ?_⟩
      have e : i = r := by omega
      subst e
      have hD0 : H D = none := hD
      refine q D (upd G2 D (.lst vs)) H2 ⟨gg.trans (Same.new g2D), hh, fun b u e => ?_, fun p e => ?_⟩ (.lst (SqL.of upd_same) (DpAll.mono (Same.new g2D) _ _ d2))
      · by_cases z : b = D
        · rw [z, upd_same] at e
          rw [z, h2]
          exact e
        · rw [upd_ne z] at e
          exact gh _ _ e
      · by_cases z : p = D
        · exact .inr (z ▸ hD0)
        · rw [upd_ne z] at e
          exact gn p e
end
end W2

namespace W2
open PySem PySem.Spec PyProof.Rows L2 Pg Pf Rul Tab
/-- C(..) as a new object at any free place: what its __init__ promises -/
def mkAt (C : Addr) (sp : Sp) (Q : VK) (vs : List V) (H : Hp) : Prop :=
  ∀ x dx, H x = none → H dx = none → dx ≠ x → sp (.ref x :: (vs ++ [])) (upd (upd H dx (.own x)) x (.ins C dx [])) (fun v H2 => v = .non ∧ Q (.ref x) H2) E0
def tMk (C : Addr) (sp : Sp) (t : TA) : TE := fun σ H Q => t σ H fun vs H1 => mkAt C sp Q vs H1
/-- a way is being made: what stands behind its __init__ -/
theorem mk_raw {K : PySem.W.Frag} {C : Addr} {G H : Hp} {r l k : Nat} {Q : VK} (s : Same G H) (r1 : 1 ≤ r) (r2 : r ≤ 6) (l1 : 1 ≤ l) (l2 : l ≤ 6) (k1 : 1 ≤ k) (k2 : k ≤ 12)
    (q : ∀ (x dx t : Addr) (G' H' : Hp), H x = none → Same G G' → Same G' H' → Same H H' → (∀ p, G' p ≠ none → G p ≠ none ∨ H p = none) → G' x = none → H' x = some (.ins C dx (wf (.int (r : Nat)) (.int (l : Nat)) (.int (k : Nat)) (.ref t))) →
      Dp K G' (.ref t) (tabT (tabF r l fun _ _ => rangeI k)) → Q (.ref x) H')  :
    mkAt C (spInit K C) Q [.int (r : Nat), .int (l : Nat), .int (k : Nat)] H := by
  intro x dx nx ndx ne
  have s2 : Same H (upd (upd H dx (.own x)) x (.ins C dx [])) := fun b o e => by
    rw [upd_ne (ne_of_none e nx), upd_ne (ne_of_none e ndx)]
    exact e
  refine ⟨G, x, dx, r, l, k, rfl, s.trans s2, s.free nx, upd_same, r1, r2, l1, l2, k1, k2, fun t G' H' a1 a2 a3 a4 a5 a6 a7 => ⟨rfl, q x dx t G' H' nx a1 a2 (fun p o e => a3 p o (s2 p o e) (ne_of_none e nx)) (fun p e => (a4 p e).imp id fun z => ?_) a5 a6 a7⟩⟩
  exact s2.free z
/-- G, grown by an object that stands in H since it was new -/
theorem fut_add {G H G' H' : Hp} {x : Addr} {o : HO} (g : Same G G') (h : Same H H') (s : Same G' H') (n : ∀ p, G' p ≠ none → G p ≠ none ∨ H p = none) (nx : H x = none) (gx : G' x = none) (hx : H' x = some o) : Fut G H (upd G' x o) H' :=
  ⟨g.trans (Same.new gx), h, fun b u e => by
    by_cases z : b = x
    · rw [z, upd_same] at e
      rw [z, hx]
      exact e
    · rw [upd_ne z] at e
      exact s _ _ e, fun p e => by
    by_cases z : p = x
    · exact .inr (z ▸ nx)
    · rw [upd_ne z] at e
      exact n p e⟩
/-- .. with all places allowed -/
theorem mk_way {K : PySem.W.Frag} {C : Addr} {G H : Hp} {r l k : Nat} {Q : VK} (s : Same G H) (r1 : 1 ≤ r) (r2 : r ≤ 6) (l1 : 1 ≤ l) (l2 : l ≤ 6) (k1 : 1 ≤ k) (k2 : k ≤ 12)
    (q : ∀ (x : Addr) (G' H' : Hp), Fut G H G' H' → WayAt K C G' x r l k (fun _ _ => rangeI k) → Q (.ref x) H')  :
    mkAt C (spInit K C) Q [.int (r : Nat), .int (l : Nat), .int (k : Nat)] H :=
  mk_raw s r1 r2 l1 l2 k1 k2 fun x dx t G' H' nx a1 a2 a3 a4 a5 a6 a7 =>
    q x _ H' (fut_add a1 a3 a2 a4 nx a5 a6) ⟨⟨dx, t, upd_same, Dp.mono (Same.new a5) _ _ a7⟩, r1, r2, l1, l2, k1, k2, fun _ _ _ _ => cell_range (by omega)⟩
/-- a def of the class, called on an object -/
structure Mo (P : Program) (w : World) (K : PySem.W.Frag) (mg : Str → Option Value) (base : Heap) (k : Nat) (C : Addr) (m : Str) (sp : Sp) : Prop where
  ex : ∃ (f : Addr) (fd : FuncData) (ps : List Str), Cls K C ∧ Meth K C m f ∧ FnOk P w K mg base CX0 k f fd ps sp ∧ Binds K fd ps []
/-- the class, called -/
structure Ma (P : Program) (w : World) (K : PySem.W.Frag) (mg : Str → Option Value) (base : Heap) (k : Nat) (x : Str) (C : Addr) (sp : Sp) : Prop where
  ex : ∃ (f : Addr) (fd : FuncData) (ps : List Str), Mk K C f ∧ FnOk P w K mg base CX0 k f fd ps sp ∧ mg x = some (.ref C) ∧ Binds K fd ps []
section
variable {X : Cx} {k j : Nat} {C : Addr} {x m : Str} {sp : Sp} {p pos apos : Pos} {e o : Expr} {es : List Expr} {ta : TE} {t : TA}
theorem pe_ma (c : Ma X.prog X.w X.K X.mg X.base k x C sp) (hr : Room j X.A) (hk : k + 1 ≤ j) (hg : Gl X x) (ha : PA X (e :: es) t)
    (hdb : (x == ("__debug__" : Str)) = false := by decide) (he : starEach (e :: es) X.env = (false, eval e X.env) :: starEach es X.env := by rfl) (hpl : (backTo pos (starEach es X.env)).any (·.1) = false := by rfl) :
    PE X (.Call (.Name x p) (e :: es) [] pos) (tMk C sp t) := by
  obtain ⟨f, fd, ps, M, F, hm, b⟩ := c.ex
  exact pe_make M F (hr.mono hk) hg hm b .nil pass0 ha hdb he hpl
theorem pe_mo {pl : Sem Bool} (c : Mo X.prog X.w X.K X.mg X.base k C m sp) (hr : Room j X.A) (hk : k ≤ j) (he : PE X o ta) (ha : PA X (e :: es) t)
    (hst : starEach (e :: es) X.env = (false, eval e X.env) :: starEach es X.env := by rfl) (hpl : (backTo pos (starEach es X.env)).any (·.1) = false := by rfl)
    (ht : eval (.Call (.Attribute o m apos) (e :: es) [] pos) X.env = (do
      let ov ← eval o X.env
      standAt apos.atName
      let (f, first) ← holding [ov] (getMethod ov m pl)
      callWith pos f first (backTo pos (starEach (e :: es) X.env)) (backToKw pos (keywordEach [] X.env))) := by rfl) :
    PE X (.Call (.Attribute o m apos) (e :: es) [] pos) (tMeth C m sp [] E0 ta t) := by
  obtain ⟨f, fd, ps, cl, me, F, b⟩ := c.ex
  exact pe_meth he cl me F (hr.mono hk) b .nil pass0 ha hst hpl ht
end
abbrev s_way_with : Stmt := top 13
abbrev N_way_with : List Str := ["places", "table", "way"]
theorem sc_way_with : FnScope N_way_with ["places", "table"] (defScope s_way_with) := ⟨rfl, rfl, rfl, by decide +kernel, rfl, by decide +kernel, by decide +kernel⟩
abbrev s_allowed : Stmt := inClass (top 11) 11
abbrev N_allowed : List Str := ["self", "right", "left"]
theorem sc_allowed : FnScope N_allowed ["self", "right", "left"] (defScope s_allowed) := ⟨rfl, rfl, rfl, by decide +kernel, rfl, by decide +kernel, by decide +kernel⟩
abbrev s_checked : Stmt := inClass (top 11) 15
abbrev N_checked : List Str := ["self", "values", "value", "place"]
theorem sc_checked : FnScope N_checked ["self", "values"] (defScope s_checked) := ⟨rfl, rfl, rfl, by decide +kernel, rfl, by decide +kernel, by decide +kernel⟩
def spWith (K : PySem.W.Frag) (C : Addr) : Sp := fun vs H Q _ => ∃ (G : Hp) (t : Addr) (r l k : Nat) (c : Nat → Nat → List Int), vs = [.int (k : Nat), .ref t] ∧ Same G H ∧ Dp K G (.ref t) (tabT (tabF r l c)) ∧ 1 ≤ r ∧ r ≤ 6 ∧ 1 ≤ l ∧ l ≤ 6 ∧ 1 ≤ k ∧ k ≤ 12 ∧ (∀ i j, i < r → j < l → Cell (k : Int) (c i j)) ∧
  ∀ (a : Addr) (G' H' : Hp), Fut G H G' H' → WayAt K C G' a r l k c → Q (.ref a) H'
def spAllowed (K : PySem.W.Frag) (C : Addr) : Sp := fun vs H Q _ => ∃ (G : Hp) (a : Addr) (r l k i j : Nat) (c : Nat → Nat → List Int), vs = [.ref a, .int (i : Nat), .int (j : Nat)] ∧ Same G H ∧ WayAt K C G a r l k c ∧ i < r ∧ j < l ∧
  ∀ x : Addr, Dp K G (.ref x) (cellD (c i j)) → Q (.ref x) H
/-- the places that are given, ascending and each once -/
def spChecked (K : PySem.W.Frag) (C : Addr) : Sp := fun vs H Q _ => ∃ (G : Hp) (a t : Addr) (r l k : Nat) (c : Nat → Nat → List Int) (ns : List Int), vs = [.ref a, .ref t] ∧ Same G H ∧ WayAt K C G a r l k c ∧ SqT K G t (ns.map V.int) ∧ ns.length ≤ 1000 ∧ (∀ x ∈ ns, 0 ≤ x ∧ x < (k : Int)) ∧
  ∀ (p : Addr) (G' H' : Hp), Fut G H G' H' → SqT K G' p (((rangeI k).filter fun x => decide (x ∈ ns)).map V.int) → Q (.ref p) H'
section
variable {P : Program} {w : World} {K : PySem.W.Frag} {mg : Str → Option Value} {base : Heap} {f C : Addr} {fd : FuncData}
/-- the entry of a table -/
theorem tab_at {G : Hp} {t : Addr} {r l i j : Nat} {c : Nat → Nat → List Int} (hd : Dp K G (.ref t) (tabT (tabF r l c))) (hi : i < r) (hj : j < l) :
    ∃ (xs ys : List V) (ty x : Addr), SqT K G t xs ∧ xs.length = r ∧ xs[i]? = some (.ref ty) ∧ SqT K G ty ys ∧ ys.length = l ∧ ys[j]? = some (.ref x) ∧ Dp K G (.ref x) (cellD (c i j)) := by
  obtain ⟨xs, hS, hA⟩ : ∃ xs, SqT K G t xs ∧ DpAll K G xs ((tabF r l c).map rowT) := by
    cases hd with
    | tup a b => exact ⟨_, a, b⟩
  obtain ⟨y, hy, hdy⟩ := DpAll.at hA (i := i) (d := rowT ((List.range l).map fun j => c i j)) (by rw [List.getElem?_map, tabF_at hi] <;> rfl)
  obtain ⟨ty, rfl, ys, hS2, hA2⟩ : ∃ ty, y = .ref ty ∧ ∃ ys, SqT K G ty ys ∧ DpAll K G ys (((List.range l).map fun j => c i j).map cellD) := by
    cases hdy with
    | tup a b => exact ⟨_, rfl, _, a, b⟩
  obtain ⟨z, hz, hdz⟩ := DpAll.at hA2 (i := j) (d := cellD (c i j)) (by rw [List.getElem?_map, rowF_at hj] <;> rfl)
  obtain ⟨x, rfl⟩ : ∃ x, z = .ref x := by
    cases hdz with
    | tup a b => exact ⟨_, rfl⟩
  exact ⟨xs, ys, ty, x, hS, by rw [DpAll.len hA, List.length_map, tabF_len], hy, hS2, by rw [DpAll.len hA2, List.length_map, List.length_map, List.length_range], hz, hdz⟩
theorem ok_way_with (B : Bt mg) (T : Wt K mg C) (cM : Ma P w K mg base 4 "Way" C (spInit K C)) (F : Fun K "way_with" "way_with" s_way_with f fd) : FnOk P w K mg base CX0 6 f fd ["places", "table"] (spWith K C) := by
  refine F.ok sc_way_with (fun vs H Q E h => ?_) (fun cdv A outer s H vs Q E hr h => ?_)
  · obtain ⟨G, t, r, l, k, c, rfl, _⟩ := h
    rfl
  · obtain ⟨G, t, r, l, k, c, rfl, sG, hd, r1, r2, l1, l2, k1, k2, hok, q⟩ := h
    have nd := sc_way_with.nd
    refine ⟨_, (pss_cons (ps_set (i := 2) nd rfl (Or.inl rfl) (pe_ma cM hr (by decide) rfl (pa_cons (pe_callB call_len_seq (by rfl) B.len PySem.boot_len (pa_cons (pv 1) pa_nil)) (pa_cons (pe_callB call_len_seq (by rfl) B.len PySem.boot_len (pa_cons (pe_ix ix_tup (pv 1) pe_int (fun _ _ => rfl)) pa_nil)) (pa_cons (pv 0) pa_nil)))))
      (pss_cons (ps_fld (pv 2) (pv 1) rfl)
      (pss_one (ps_ret (pv 2))))), ?_⟩
    obtain ⟨xs, ys, ty, x0, h1, n1, h2, h3, n2, _⟩ := tab_at hd (i := 0) (j := 0) (by omega) (by omega)
    refine ⟨_, rfl, t, _, rfl, .inr (Evl.ex_t sG h1), _, rfl, t, _, _, _, rfl, rfl, Evl.ex_t sG h1, atI_nat h2, ty, _, rfl, .inr (Evl.ex_t sG h3), _, rfl, ?_⟩
    rw [n1, n2]
    dsimp only [tNil]
    refine mk_raw sG r1 r2 l1 l2 k1 k2 fun x dx t' G' H' nx a1 a2 a3 a4 a5 a6 a7 => ?_
    refine ⟨_, rfl, _, rfl, x, C, dx, _, rfl, a6, T.cl, T.nT, (by rw [wf_eq]; show 4 < 1000; decide), ?_⟩
    rw [wf_put]
    refine ⟨_, rfl, ?_⟩
    have nx' : ∀ p o, H p = some o → p ≠ x := fun p o e => ne_of_none e nx
    refine q x (upd G' x (.ins C dx (wf (.int (r : Nat)) (.int (l : Nat)) (.int (k : Nat)) (.ref t)))) _ (fut_add a1 (fun p o e => by rw [upd_ne (nx' p o e)]; exact a3 p o e) (Fut.mut a2 a5) a4 nx a5 upd_same) ⟨⟨dx, t, upd_same, Dp.mono (a1.trans (Same.new a5)) _ _ hd⟩, r1, r2, l1, l2, k1, k2, hok⟩
theorem ok_allowed (T : Wt K mg C) (cC : CalO P w K mg base 3 "check_walker" spChk) (F : Fun K "allowed" "Way.allowed" s_allowed f fd) : FnOk P w K mg base CX0 4 f fd ["self", "right", "left"] (spAllowed K C) := by
  refine F.ok sc_allowed (fun vs H Q E h => ?_) (fun cdv A outer s H vs Q E hr h => ?_)
  · obtain ⟨G, a, r, l, k, i, j, c, rfl, _⟩ := h
    rfl
  · obtain ⟨G, a, r, l, k, i, j, c, rfl, sG, W, hi, hj, q⟩ := h
    refine ⟨_, (pss_cons (ps_expr (pe_cO cC hr (by decide) rfl (pa_cons (pv 1) (pa_cons (pe_fld (pv 0) rfl) pa_nil))))
      (pss_cons (ps_expr (pe_cO cC hr (by decide) rfl (pa_cons (pv 2) (pa_cons (pe_fld (pv 0) rfl) pa_nil))))
      (pss_one (ps_ret (pe_ix ix_tup (pe_ix ix_tup (pe_fld (pv 0) rfl) (pv 1) (fun _ _ => rfl)) (pv 2) (fun _ _ => rfl)))))), ?_⟩
    obtain ⟨dx, t, ha, hd⟩ := W.ob
    obtain ⟨xs, ys, ty, x0, h1, n1, h2, h3, n2, h4, h5⟩ := tab_at hd hi hj
    have ha' := sG _ _ ha
    refine ⟨_, rfl, _, rfl, a, C, dx, _, _, rfl, ha', T.cl, T.nR, wf_r _ _ _ _, _, _, rfl, by omega, by omega, ?_⟩
    refine ⟨_, rfl, _, rfl, a, C, dx, _, _, rfl, ha', T.cl, T.nL, wf_l _ _ _ _, _, _, rfl, by omega, by omega, ?_⟩
    refine ⟨_, rfl, a, C, dx, _, _, rfl, ha', T.cl, T.nT, wf_t _ _ _ _, _, rfl, t, _, _, _, rfl, rfl, Evl.ex_t sG h1, atI_nat h2, _, rfl, ty, _, _, _, rfl, rfl, Evl.ex_t sG h3, atI_nat h4, ?_⟩
    exact q x0 h5
end
end W2

namespace W2
open PySem PySem.Spec PyProof.Rows L2 Pg Pf Rul Tab
theorem inV_ints (x : Int) : ∀ ns : List Int, inV (.int x) (ns.map V.int) = decide (x ∈ ns)
  | [] => rfl
  | n :: ns => by
    have ih := inV_ints x ns
    unfold inV at ih ⊢
    rw [List.map_cons, List.any_cons, ih]
    have e : eqV (.int n) (.int x) = decide (n = x) := by
      simp only [eqV]
      rw [Bool.eq_iff_iff]
      simp
    rw [e]
    by_cases h : n = x
    · subst h
      simp
    · have h' : ¬ x = n := fun z => h z.symm
      simp [h, h']
theorem flat_ints : ∀ ns : List Int, (ns.map V.int).all flatV = true
  | [] => rfl
  | n :: ns => by
    rw [List.map_cons, List.all_cons, flat_ints ns]
    rfl
theorem tabF_congr {r l : Nat} {f g : Nat → Nat → List Int} (h : ∀ i j, i < r → j < l → f i j = g i j) : tabF r l f = tabF r l g := by
  unfold tabF
  apply List.map_congr_left
  intro i hi
  apply List.map_congr_left
  intro j hj
  exact h i j (List.mem_range.mp hi) (List.mem_range.mp hj)
theorem pairs_at (l : Nat) (hl : 0 < l) : ∀ (r n : Nat), n < r * l → (pairsL r l)[n]? = some (n / l, n % l)
  | 0, n, h => by omega
  | r + 1, n, h => by
    rw [pairs_step]
    rw [Nat.succ_mul] at h
    by_cases hn : n < r * l
    · rw [List.getElem?_append_left (by rw [pairs_len]; exact hn)]
      exact pairs_at l hl r n hn
    · rw [List.getElem?_append_right (by rw [pairs_len]; omega), pairs_len, List.getElem?_map, List.getElem?_range (by omega)]
      have e1 : n = l * r + (n - r * l) := by rw [Nat.mul_comm l r]; omega
      have e2 : n / l = r := by
        rw [e1, Nat.mul_add_div hl, Nat.div_eq_of_lt (by omega), Nat.add_zero]
      have e3 : n % l = n - r * l := by
        rw [e1, Nat.mul_add_mod, Nat.mod_eq_of_lt (by omega), ← e1]
      rw [e2, e3]
      rfl
theorem idx_eq {l n i j : Nat} (hj : j < l) : i * l + j = n ↔ i = n / l ∧ j = n % l := by
  have hl : 0 < l := by omega
  constructor
  · intro h
    subst h
    rw [Nat.mul_comm i l]
    exact ⟨by rw [Nat.mul_add_div hl, Nat.div_eq_of_lt hj, Nat.add_zero], by rw [Nat.mul_add_mod, Nat.mod_eq_of_lt hj]⟩
  · rintro ⟨rfl, rfl⟩
    rw [Nat.mul_comm]
    exact Nat.div_add_mod n l
section
variable {P : Program} {w : World} {K : PySem.W.Frag} {mg : Str → Option Value} {base : Heap} {f C : Addr} {fd : FuncData}
theorem ok_checked (B : Bt mg) (T : Wt K mg C) (cN : CalO P w K mg base 2 "is_number" spNum) (F : Fun K "_checked_places" "Way._checked_places" s_checked f fd) : FnOk P w K mg base CX0 3 f fd ["self", "values"] (spChecked K C) := by
  refine F.ok sc_checked (fun vs H Q E h => ?_) (fun cdv A outer s H vs Q E hr h => ?_)
  · obtain ⟨G, a, t, r, l, k, c, ns, rfl, _⟩ := h
    rfl
  · obtain ⟨G, a, t, r, l, k, c, ns, rfl, sG, W, hT, hl, hns, q⟩ := h
    have nd := sc_checked.nd
    refine ⟨_, (pss_cons (ps_for PassesOwn.never rfl (pi_tup (pv 1)) (pg_name (i := 2) nd rfl (Or.inl rfl))
      (pss_one (ps_if (pt_not (pt_val (pe_cO cN hr (by decide) rfl (pa_cons (pv 2) (pa_cons pe_int (pa_cons (pe_op op_sub (pe_fld (pv 0) rfl) pe_int) pa_nil)))))) (pss_one ps_never) pss_nil)))
      (pss_one (ps_ret (pe_callTy call_tuple_of (by rfl) B.tuple (by decide +kernel) (pa_cons (pe_lc (own := [("place", 3)]) rfl nd (pi_range1 rfl B.range (pa_cons (pe_fld (pv 0) rfl) pa_nil)) (blkOk_by (N := N_checked) (sc := defScope s_checked) (by decide +kernel)) (fun _ _ _ _ _ => (pg_name (i := 3) nd rfl (Or.inl rfl))) (fun _ _ _ _ _ => pts_one (pt_cmpR (show OpR _ (compareOp .In) (rIn K false) from op_in_seq) (pv 3) (pv 1) (by rfl))) (fun _ _ _ _ _ => (pv 3))) pa_nil))))), ?_⟩
    obtain ⟨dx, t0, ha, hd⟩ := W.ob
    have ha' := sG _ _ ha
    have k2 := W.k2
    refine ⟨_, rfl, t, rfl, ⟨_, Evl.ex_t sG hT⟩, for_tup (K := K) (a := t) (xs := ns.map V.int) (fun i σ H2 => H2 = H ∧ ∃ v, σ = [some (.ref a), some (.ref t), v, none]) ⟨rfl, none, rfl⟩ (fun i σ H2 _ ⟨e, _⟩ => by rw [e]; exact Evl.ex_t sG hT) ?_ ?_⟩
    · rintro i x σ H2 hx ⟨rfl, v, rfl⟩
      rw [List.getElem?_map] at hx
      obtain ⟨z, hz, rfl⟩ : ∃ z, ns[i]? = some z ∧ x = V.int z := by
        cases e : ns[i]? with
        | none =>
          rw [e] at hx
          cases hx
        | some z =>
          rw [e] at hx
          exact ⟨z, rfl, (Option.some.inj hx).symm⟩
      have hz' := hns z (List.mem_of_getElem? hz)
      refine ⟨_, rfl, _, rfl, a, C, dx, _, _, rfl, ha', T.cl, T.nP, wf_k _ _ _ _, _, _, rfl, rfl, z, 0, (k : Int) - 1, rfl, _, rfl, ?_⟩
      rw [decide_eq_true hz'.1, decide_eq_true (show z ≤ (k : Int) - 1 by omega)]
      refine iteF ?_
      exact ⟨rfl, _, rfl⟩
    · rintro σ H2 ⟨rfl, v, rfl⟩
      refine ⟨_, rfl, a, C, dx, _, _, rfl, ha', T.cl, T.nP, wf_k _ _ _ _, (k : Nat), rfl, by omega, by omega, fun D hD => ?_⟩
      rw [show ((k : Nat) : Int).toNat = k by omega]
      refine lc_range (lo := 0) (n := k) (fun i H3 => ∃ acc : List Int, H3 D = some (.lst (acc.map V.int)) ∧ Same H2 H3 ∧ acc.length ≤ i ∧ acc = (((List.range i).map fun i => (0 : Int) + (i : Nat)).filter fun x => decide (x ∈ ns))) ⟨[], upd_same, Same.new hD, by simp, rfl⟩ ?_ ?_
      · rintro i H3 hi ⟨acc, hA, s3, la, ea⟩
        refine ⟨rfl, ?_⟩
        refine ⟨_, rfl, _, rfl, t, _, rfl, .inr (Evl.ex_t (sG.trans s3) hT), rfl, flat_ints ns, _, rfl, ?_⟩
        rw [if_neg Bool.false_ne_true, inV_ints]
        have es : ((List.range (i + 1)).map fun i => (0 : Int) + (i : Nat)) = ((List.range i).map fun i => (0 : Int) + (i : Nat)) ++ [(0 : Int) + (i : Nat)] := by
          rw [List.range_succ, List.map_append]
          rfl
        by_cases hm : (0 : Int) + (i : Nat) ∈ ns
        · rw [decide_eq_true hm]
          refine iteT ?_
          refine ⟨_, rfl, _, hA, small1000 (by rw [List.length_map]; omega), acc ++ [(0 : Int) + (i : Nat)], by rw [upd_same, List.map_append] <;> rfl, Fut.mut s3 hD, by rw [List.length_append]; show acc.length + 1 ≤ i + 1; omega, ?_⟩
          rw [es, List.filter_append, ← ea, List.filter_cons_of_pos (by exact decide_eq_true hm), List.filter_nil]
        · rw [decide_eq_false hm]
          refine iteF ?_
          refine ⟨acc, hA, s3, by omega, ?_⟩
          rw [es, List.filter_append, ← ea, List.filter_cons_of_neg (by rw [decide_eq_false hm]; exact Bool.false_ne_true), List.filter_nil, List.append_nil]
      · rintro H3 ⟨acc, hA, s3, la, ea⟩
        refine ⟨D, _, rfl, .inl ⟨SqL.of hA, fun p hp => ?_⟩⟩
        have fn := (Fut.up sG s3).trans (Fut.new (o := .tup (acc.map V.int)) (sG.trans s3) hp)
        refine q p _ _ fn ?_
        have e : acc = ((rangeI (k : Nat)).filter fun x => decide (x ∈ ns)) := by
          rw [ea]
          unfold rangeI
          rw [show ((k : Nat) : Int).toNat = k by omega]
        rw [← e]
        exact Evl.st_of upd_same
end
abbrev s_closing : Stmt := inClass (top 11) 13
abbrev N_closing : List Str := ["self", "right", "left", "places", "closed", "table", "one", "two", "still", "place"]
theorem sc_closing : FnScope N_closing ["self", "right", "left", "places"] (defScope s_closing) := ⟨rfl, rfl, rfl, by decide +kernel, rfl, by decide +kernel, by decide +kernel⟩
/-- without these places -/
def less (c : Nat → Nat → List Int) (i j : Nat) (ns : List Int) : Nat → Nat → List Int := put2 c i j ((c i j).filter fun x => !decide (x ∈ ns))
/-- closing(*places, right=i, left=j) -/
def spClosing (K : PySem.W.Frag) (C : Addr) : Sp := fun vs H Q _ => ∃ (G : Hp) (a t : Addr) (r l k i j : Nat) (c : Nat → Nat → List Int) (ns : List Int), vs = [.ref a, .int (i : Nat), .int (j : Nat), .ref t] ∧ Same G H ∧ WayAt K C G a r l k c ∧ SqT K G t (ns.map V.int) ∧ ns.length ≤ 1000 ∧ (∀ x ∈ ns, 0 ≤ x ∧ x < (k : Int)) ∧
  i < r ∧ j < l ∧ ((c i j).filter fun x => !decide (x ∈ ns)) ≠ [] ∧ ∀ (b : Addr) (G' H' : Hp), Fut G H G' H' → WayAt K C G' b r l k (less c i j ns) → Q (.ref b) H'
section
variable {P : Program} {w : World} {K : PySem.W.Frag} {mg : Str → Option Value} {base : Heap} {f C : Addr} {fd : FuncData}
theorem dpall_ints {K : PySem.W.Frag} {H : Hp} : ∀ {vs : List V} {ns : List Int}, DpAll K H vs (ns.map PyData.int) → vs = ns.map V.int
  | _, [], .nil => rfl
  | _, n :: ns, .cons a b => by
    cases a with
    | int z => rw [dpall_ints b] <;> rfl
theorem cell_vals {K : PySem.W.Frag} {H : Hp} {x : Addr} {ns : List Int} (h : Dp K H (.ref x) (cellD ns)) : SqT K H x (ns.map V.int) := by
  cases h with
  | tup a b =>
    rw [dpall_ints b] at a
    exact a
theorem pair_vals {K : PySem.W.Frag} {H : Hp} {v : V} {p : Nat × Nat} (h : Dp K H v (pairD p)) : ∃ x, v = .ref x ∧ SqT K H x [.int (p.1 : Nat), .int (p.2 : Nat)] := by
  cases h with
  | tup a b =>
    cases b with
    | cons b1 b2 =>
      cases b2 with
      | cons b2 b3 =>
        cases b1
        cases b2
        cases b3
        exact ⟨_, rfl, a⟩
theorem dec_int (a b : Nat) : decide (V.int (a : Nat) = V.int (b : Nat)) = decide (a = b) := by
  by_cases h : a = b
  · rw [decide_eq_true h, decide_eq_true (by rw [h])]
  · rw [decide_eq_false h, decide_eq_false (fun z => h (by injection z with z; omega))]
/-- the table after n pairs -/
def cn (c : Nat → Nat → List Int) (l i j : Nat) (ns : List Int) (n : Nat) : Nat → Nat → List Int := fun i' j' => if i' * l + j' < n then less c i j ns i' j' else c i' j'
theorem less_cell {k : Int} {c : Nat → Nat → List Int} {i j : Nat} {ns : List Int} (h : ∀ x y, Cell k (c x y) ∨ True) (x y : Nat) (hc : Cell k (c x y)) (hne : ((c i j).filter fun x => !decide (x ∈ ns)) ≠ []) : Cell k (less c i j ns x y) := by
  unfold less put2
  by_cases e : x = i ∧ y = j
  · rw [if_pos e]
    obtain ⟨rfl, rfl⟩ := e
    exact ⟨hne, hc.2.1.filter _, fun z hz => hc.2.2 z (List.mem_filter.mp hz).1⟩
  · rw [if_neg e]
    exact hc
theorem mem_range {k z : Int} (h1 : 0 ≤ z) (h2 : z < k) : z ∈ rangeI k := by
  unfold rangeI
  exact List.mem_map.mpr ⟨z.toNat, List.mem_range.mpr (by omega), by omega⟩
theorem asc_len : ∀ {ns : List Int} {a b : Int}, ns.Pairwise (· < ·) → (∀ x ∈ ns, a ≤ x ∧ x < b) → a ≤ b → (ns.length : Int) ≤ b - a
  | [], a, b, _, _, h => by simp; omega
  | n :: ns, a, b, hp, hm, h => by
    rw [List.pairwise_cons] at hp
    have h0 := hm n List.mem_cons_self
    have ih := asc_len (ns := ns) (a := n + 1) (b := b) hp.2 (fun x hx => ⟨by have := hp.1 x hx; omega, (hm x (List.mem_cons_of_mem _ hx)).2⟩) (by omega)
    rw [List.length_cons]
    omega
theorem cell_len {k : Int} {ns : List Int} (h : Cell k ns) (hk : k ≤ 12) : ns.length ≤ 12 := by
  obtain ⟨h0, h1, h2⟩ := h
  have hk0 : 0 ≤ k := by
    cases ns with
    | nil => exact absurd rfl h0
    | cons a b =>
      have := h2 a List.mem_cons_self
      omega
  have := asc_len h1 h2 hk0
  omega
/-- the body of closing -/
theorem body_closing (B : Bt mg) (T : Wt K mg C) (cC : CalO P w K mg base 3 "check_walker" spChk) (cK : Mo P w K mg base 3 C "_checked_places" (spChecked K C)) (cP : CalO P w K mg base 4 "pairs_of" (spPairs K C)) (cW : CalO P w K mg base 2 "with_cell" (spCell K)) (cX : CalO P w K mg base 6 "way_with" (spWith K C))
    {cdv : Value} {A : Around} {outer : List Env} {s : Shared} {H : Hp} {vs : List V} {Q : VK} (hr : Room 6 (A.deeper (envOfC "Way.closing" (defScope s_closing) s.heap.objs.size f cdv))) (h : spClosing K C vs H Q E0) :
    ∃ t, PSs (cxOf CX0 P w K mg base N_closing "Way.closing" (defScope s_closing) f cdv A outer s H E0) (defBody s_closing) t ∧ t { nx := fun _ H' => Q .non H', rt := Q } (start N_closing vs) H := by
  obtain ⟨G, a, t, r, l, k, i, j, c, ns, rfl, sG, W, hT, hl, hns, hi, hj, hne, q⟩ := h
  have nd := sc_closing.nd
  refine ⟨_, PSs.nox (pss_cons (ps_if (pt_cmpR op_notN (pv 1) pe_non (nomark _)) (pss_one (ps_expr (pe_cO cC hr (by decide) rfl (pa_cons (pv 1) (pa_cons (pe_fld (pv 0) rfl) pa_nil))))) pss_nil)
    (pss_cons (ps_if (pt_cmpR op_notN (pv 2) pe_non (nomark _)) (pss_one (ps_expr (pe_cO cC hr (by decide) rfl (pa_cons (pv 2) (pa_cons (pe_fld (pv 0) rfl) pa_nil))))) pss_nil)
    (pss_cons (ps_set (i := 4) nd rfl (Or.inr rfl) (pe_mo cK hr (by decide) (pv 0) (pa_cons (pv 3) pa_nil)))
    (pss_cons (ps_set (i := 5) nd rfl (Or.inl rfl) (pe_fld (pv 0) rfl))
    (pss_cons (ps_for PassesOwn.never rfl (pi_list (pe_cO cP hr (by decide) rfl (pa_cons (pv 0) pa_nil))) (pg_tup rfl (pgs_cons (pg_name (i := 6) nd rfl (Or.inl rfl)) (pgs_cons (pg_name (i := 7) nd rfl (Or.inl rfl)) pgs_nil)))
    (pss_one (ps_if (PW.pt (pw_and (PW.pt (pw_or (pt_cmpR op_isN (pv 1) pe_non (nomark _)) (pw_or1 (pt_cmpR op_eq (pv 1) (pv 6) (nomark _))))) (pw_and1 (PW.pt (pw_or (pt_cmpR op_isN (pv 2) pe_non (nomark _)) (pw_or1 (pt_cmpR op_eq (pv 2) (pv 7) (nomark _)))))))) (pss_cons (ps_set (i := 8) nd rfl (Or.inl rfl) (pe_callTy call_tuple_of (by rfl) B.tuple (by decide +kernel) (pa_cons (pe_lc (own := [("place", 9)]) rfl nd (pi_tup (pe_ix ix_tup (pe_ix ix_tup (pe_fld (pv 0) rfl) (pv 6) (fun _ _ => rfl)) (pv 7) (fun _ _ => rfl))) (blkOk_by (N := N_closing) (sc := defScope s_closing) (by decide +kernel)) (fun _ _ _ _ _ => (pg_name (i := 9) nd rfl (Or.inl rfl))) (fun _ _ _ _ _ => pts_one (pt_cmpR (show OpR _ (compareOp .NotIn) (rIn K true) from op_notIn_seq) (pv 9) (pv 4) (by rfl))) (fun _ _ _ _ _ => (pv 9))) pa_nil)))
    (pss_cons (ps_if (pt_cmpR op_eq (pe_callB call_len_seq (by rfl) B.len PySem.boot_len (pa_cons (pv 8) pa_nil)) pe_int (nomark _)) (pss_one ps_never) pss_nil)
    (pss_one (ps_set (i := 5) nd rfl (Or.inl rfl) (pe_cO cW hr (by decide) rfl (pa_cons (pv 5) (pa_cons (pv 6) (pa_cons (pv 7) (pa_cons (pv 8) pa_nil))))))))) pss_nil)))
    (pss_one (ps_ret (pe_cO cX hr (by decide) rfl (pa_cons (pe_fld (pv 0) rfl) (pa_cons (pv 5) pa_nil)))))))))), ?_⟩
  obtain ⟨dx, t0, ha, hd⟩ := W.ob
  have ha' := sG _ _ ha
  have r2 := W.r2
  have l2 := W.l2
  have k2 := W.k2
  refine ⟨_, rfl, rfl, _, rfl, ?_⟩
  refine iteT ?_
  refine ⟨_, rfl, _, rfl, a, C, dx, _, _, rfl, ha', T.cl, T.nR, wf_r _ _ _ _, _, _, rfl, by omega, by omega, ?_⟩
  refine ⟨_, rfl, rfl, _, rfl, ?_⟩
  refine iteT ?_
  refine ⟨_, rfl, _, rfl, a, C, dx, _, _, rfl, ha', T.cl, T.nL, wf_l _ _ _ _, _, _, rfl, by omega, by omega, ?_⟩
  refine ⟨_, rfl, a, dx, _, rfl, ha', wf_no _ _ _ _ (by decide +kernel) (by decide +kernel) (by decide +kernel) (by decide +kernel), _, rfl, G, a, t, r, l, k, c, ns, rfl, sG, W, hT, hl, hns, fun p1 G1 H1 f1 h1 => ?_⟩
  refine ⟨_, rfl, a, C, dx, _, _, rfl, f1.h _ _ ha', T.cl, T.nT, wf_t _ _ _ _, ?_⟩
  refine ⟨_, rfl, G1, a, r, l, k, c, rfl, f1.s, W.mono f1.g, fun p2 G2 H2 f2 d2 => ?_⟩
  obtain ⟨vp, hL, hP⟩ : ∃ vp, SqL K G2 p2 vp ∧ DpAll K G2 vp ((pairsL r l).map pairD) := by
    cases d2 with
    | lst a b => exact ⟨_, a, b⟩
  have lvp : vp.length = r * l := by rw [DpAll.len hP, List.length_map, pairs_len]
  have f12 := f1.trans f2
  have hl0 : 0 < l := by omega
  refine ⟨p2, rfl, ⟨_, Same.seq f2.s hL⟩, for_list (K := K) (a := p2) (xs := vp) (fun n σ H3 => ∃ (G3 : Hp) (t' : Addr) (v6 v7 v8 : Option V), σ = [some (.ref a), some (.int (i : Nat)), some (.int (j : Nat)), some (.ref t), some (.ref p1), some (.ref t'), v6, v7, v8, none] ∧
      Fut G H G3 H3 ∧ Same G2 G3 ∧ Dp K G3 (.ref t') (tabT (tabF r l (cn c l i j ns n))))
    ⟨G2, t0, none, none, none, rfl, f12, Same.refl _, ?_⟩ (fun n σ H3 _ ⟨G3, _, _, _, _, _, f3, g3, _⟩ => Same.seq (g3.trans f3.s) hL) ?_ ?_⟩
  · have e : tabF r l (cn c l i j ns 0) = tabF r l c := tabF_congr fun x y _ _ => by unfold cn; rw [if_neg (by omega)]
    rw [e]
    exact Dp.mono f12.g _ _ hd
  · rintro n x σ H3 hx ⟨G3, t', v6, v7, v8, rfl, f3, g3, d3⟩
    have hn : n < r * l := by
      rw [← lvp]
      exact (List.getElem?_eq_some_iff.mp hx).1
    obtain ⟨d, hd1, hd2⟩ := DpAll.at' hP hx
    rw [List.getElem?_map, pairs_at l hl0 r n hn] at hd1
    obtain rfl := Option.some.inj hd1
    obtain ⟨px, rfl, hpx⟩ := pair_vals hd2
    have hnr : n / l < r := Nat.div_lt_of_lt_mul (by rw [Nat.mul_comm]; exact hn)
    have hnl : n % l < l := Nat.mod_lt _ hl0
    have step : ∀ i' j', i' < r → j' < l → (¬ (i' = n / l ∧ j' = n % l) → cn c l i j ns (n + 1) i' j' = cn c l i j ns n i' j') := fun i' j' _ hj' h => by
      have h' : i' * l + j' ≠ n := fun z => h ((idx_eq hj').mp z)
      unfold cn
      by_cases z : i' * l + j' < n
      · rw [if_pos z, if_pos (by omega)]
      · rw [if_neg z, if_neg (by omega)]
    have at_n : cn c l i j ns (n + 1) (n / l) (n % l) = less c i j ns (n / l) (n % l) := by
      unfold cn
      rw [(idx_eq hnl).mpr ⟨rfl, rfl⟩, if_pos (Nat.lt_succ_self n)]
    have at_n0 : cn c l i j ns n (n / l) (n % l) = c (n / l) (n % l) := by
      unfold cn
      rw [(idx_eq hnl).mpr ⟨rfl, rfl⟩, if_neg (Nat.lt_irrefl n)]
    have same_if : less c i j ns (n / l) (n % l) = c (n / l) (n % l) → tabF r l (cn c l i j ns (n + 1)) = tabF r l (cn c l i j ns n) := fun h => tabF_congr fun i' j' h1 h2 => by
      by_cases z : i' = n / l ∧ j' = n % l
      · obtain ⟨rfl, rfl⟩ := z
        rw [at_n, at_n0, h]
      · exact step i' j' h1 h2 z
    refine ⟨px, _, rfl, Evl.ex_t (g3.trans f3.s) hpx, rfl, _, _, rfl, _, _, rfl, rfl, ?_⟩
    refine ⟨_, rfl, rfl, _, rfl, ?_⟩
    refine iteF ?_
    refine ⟨_, rfl, _, rfl, rfl, _, rfl, ?_⟩
    rw [dec_int]
    by_cases e1 : i = n / l
    · rw [decide_eq_true e1]
      refine iteT ?_
      refine ⟨_, rfl, rfl, _, rfl, ?_⟩
      refine iteF ?_
      refine ⟨_, rfl, _, rfl, rfl, _, rfl, ?_⟩
      rw [dec_int]
      by_cases e2 : j = n % l
      · rw [decide_eq_true e2]
        refine iteT ?_
        subst e1
        subst e2
        obtain ⟨xs, ys, ty, x0, b1, n1, b2, b3, n2, b4, b5⟩ := tab_at hd hi hj
        have g03 : Same G H3 := sG.trans f3.h
        refine ⟨_, rfl, a, C, dx, _, _, rfl, f3.h _ _ ha', T.cl, T.nT, wf_t _ _ _ _, _, rfl, t0, _, _, _, rfl, rfl, Evl.ex_t g03 b1, atI_nat b2, _, rfl, ty, _, _, _, rfl, rfl, Evl.ex_t g03 b3, atI_nat b4, x0, rfl, ⟨_, Evl.ex_t g03 (cell_vals b5)⟩, fun D hD => ?_⟩
        have hc := W.ok _ _ hi hj
        have lc12 : (c (n / l) (n % l)).length ≤ 1000 := by
          have h1 : (c (n / l) (n % l)).length ≤ 12 := cell_len hc (by omega)
          omega
        refine lc_it walk_tup (fun m H4 => ∃ acc : List Int, H4 D = some (.lst (acc.map V.int)) ∧ Same H3 H4 ∧ acc.length ≤ m ∧ acc = ((c (n / l) (n % l)).take m).filter fun x => !decide (x ∈ ns)) ⟨[], upd_same, Same.new hD, by simp, by simp⟩ (fun m H4 _ ⟨_, _, s4, _⟩ => Evl.ex_t (g03.trans s4) (cell_vals b5)) ?_ ?_
        · rintro m x H4 H5 hm ⟨acc, hA, s4, la, ea⟩ ⟨rfl, hx⟩
          rw [List.length_map] at hm
          obtain ⟨z, hz, rfl⟩ : ∃ z, (c (n / l) (n % l))[m]? = some z ∧ x = V.int z := by
            rw [List.getElem?_map] at hx
            cases e : (c (n / l) (n % l))[m]? with
            | none =>
              rw [e] at hx
              cases hx
            | some z =>
              rw [e] at hx
              exact ⟨z, rfl, (Option.some.inj hx).symm⟩
          have hz' := hc.2.2 z (List.mem_of_getElem? hz)
          have hin : (z ∈ ((rangeI (k : Nat)).filter fun x => decide (x ∈ ns))) ↔ z ∈ ns := by
            rw [List.mem_filter, decide_eq_true_eq]
            exact ⟨fun h => h.2, fun h => ⟨mem_range hz'.1 hz'.2, h⟩⟩
          have ht : (c (n / l) (n % l)).take (m + 1) = (c (n / l) (n % l)).take m ++ [z] := by rw [List.take_add_one, hz] <;> rfl
          refine ⟨rfl, ?_⟩
          refine ⟨_, rfl, _, rfl, p1, _, rfl, .inr (Evl.ex_t ((f2.g.trans g3).trans (f3.s.trans s4)) h1), rfl, flat_ints _, _, rfl, ?_⟩
          rw [if_pos rfl, inV_ints, decide_eq_decide.mpr hin]
          by_cases hm : z ∈ ns
          · rw [decide_eq_true hm]
            refine iteF ?_
            refine ⟨acc, hA, s4, by omega, ?_⟩
            rw [ht, List.filter_append, ← ea, List.filter_cons_of_neg (by rw [decide_eq_true hm]; exact Bool.false_ne_true), List.filter_nil, List.append_nil]
          · rw [decide_eq_false hm]
            refine iteT ?_
            refine ⟨_, rfl, _, hA, small1000 (by rw [List.length_map]; omega), acc ++ [z], by rw [upd_same, List.map_append] <;> rfl, Fut.mut s4 hD, by rw [List.length_append]; show acc.length + 1 ≤ m + 1; omega, ?_⟩
            rw [ht, List.filter_append, ← ea, List.filter_cons_of_pos (by rw [decide_eq_false hm]; rfl), List.filter_nil]
        · rintro H4 ⟨acc, hA, s4, la, ea⟩
          rw [List.length_map, List.take_length] at ea
          have f4 := f3.trans (Fut.up f3.s s4)
          refine ⟨D, _, rfl, .inl ⟨SqL.of hA, fun p3 hp3 => ?_⟩⟩
          have fn := Fut.new (o := .tup (acc.map V.int)) f4.s hp3
          have f5 := f4.trans fn
          refine ⟨_, rfl, p3, _, rfl, .inr (Evl.st_of upd_same), rfl, _, rfl, ?_⟩
          have nz : ¬ (V.int ((acc.map V.int).length : Nat) = V.int 0) := fun z => by
            injection z with z
            rw [List.length_map] at z
            exact hne (by rw [← ea]; exact List.eq_nil_of_length_eq_zero (by omega))
          rw [decide_eq_false nz]
          refine iteF ?_
          refine ⟨_, rfl, _, rfl, _, rfl, _, rfl, _, t', p3, r, l, n / l, n % l, cn c l (n / l) (n % l) ns n, acc, rfl, f5.s, Dp.mono fn.g _ _ d3, hnr, hnl, r2, l2, dp_cell upd_same, fun p4 G6 H6 f6 d6 => ?_⟩
          have eT : tabF r l (put2 (cn c l (n / l) (n % l) ns n) (n / l) (n % l) acc) = tabF r l (cn c l (n / l) (n % l) ns (n + 1)) := tabF_congr fun i' j' h1 h2 => by
            unfold put2
            by_cases z : i' = n / l ∧ j' = n % l
            · rw [if_pos z, z.1, z.2, at_n, ea]
              unfold less put2
              rw [if_pos ⟨rfl, rfl⟩]
            · rw [if_neg z]
              exact (step i' j' h1 h2 z).symm
          rw [eT] at d6
          exact ⟨G6, p4, _, _, _, rfl, f5.trans f6, (g3.trans fn.g).trans f6.g, d6⟩
      · rw [decide_eq_false e2]
        refine iteF ?_
        refine ⟨G3, t', _, _, _, rfl, f3, g3, ?_⟩
        rw [same_if (by unfold less put2; rw [if_neg (fun z => e2 z.2.symm)])]
        exact d3
    · rw [decide_eq_false e1]
      refine iteF ?_
      refine iteF ?_
      refine ⟨G3, t', _, _, _, rfl, f3, g3, ?_⟩
      rw [same_if (by unfold less put2; rw [if_neg (fun z => e1 z.1.symm)])]
      exact d3
  · rintro σ H3 ⟨G3, t', v6, v7, v8, rfl, f3, g3, d3⟩
    have e : tabF r l (cn c l i j ns vp.length) = tabF r l (less c i j ns) := tabF_congr fun x y hx hy => by
      unfold cn
      rw [if_pos]
      rw [lvp]
      have := Nat.mul_le_mul_right l (show x + 1 ≤ r by omega)
      rw [Nat.succ_mul] at this
      omega
    rw [e] at d3
    refine ⟨_, rfl, a, C, dx, _, _, rfl, f3.h _ _ ha', T.cl, T.nP, wf_k _ _ _ _, _, rfl, ?_⟩
    exact ⟨G3, t', r, l, k, less c i j ns, rfl, f3.s, d3, W.r1, W.r2, W.l1, W.l2, W.k1, W.k2, fun x y hx hy => less_cell (fun _ _ => .inr True.intro) x y (W.ok x y hx hy) hne, fun b G4 H4 f4 W4 => q b G4 H4 (f3.trans f4) W4⟩
end
end W2

namespace W2
open PySem PySem.Spec PyProof.Rows L2 Pg Pf Rul Tab
theorem bind_closing (kV doc pm : Value) (an : Option Addr) (cdv ct : Value) (u v w2 w3 : Value) :
    bindArgs (PySem.W.fnOf "closing" "Way.closing" (defArgs s_closing) (defBody s_closing) (defScope s_closing) .none kV doc pm an cdv ct) ⟨[u, v], [("right", w2), ("left", w3)]⟩ =
      (newTuple [v] >>= fun t => pure ([("self", u), ("right", w2), ("left", w3), ("places", t)] : List (Str × Value))) := by
  rfl
/-- closing as a method: one place, both walkers by name -/
structure Clo (P : Program) (w : World) (K : PySem.W.Frag) (mg : Str → Option Value) (base : Heap) (k : Nat) (C : Addr) (sp : Sp) : Prop where
  ex : ∃ f : Addr, Cls K C ∧ Meth K C "closing" f ∧ ∀ (A : Around) (outer : List Env) (s : Shared) (H : Hp) (us : List Value) (a : Addr) (v x y : V) (Q : VK), Room k A → Env0 P w K mg base A outer s H → Vals [.ref a, v, x, y] us →
    (∀ p, H p = none → sp [.ref a, x, y, .ref p] (upd H p (.tup [v])) Q E0) →
    ∀ u0 u1 u2 u3, us = [u0, u1, u2, u3] → codeAny (model P w) A (.call (.ref f) ⟨[u0, u1], [("right", u2), ("left", u3)]⟩) (CR CX0 outer P w H s Q E0) s
def tClo (C : Addr) (sp : Sp) (ta t1 t2 t3 : TE) : TE := fun σ H Q => ta σ H fun x H1 => ∃ a dx fs, x = .ref a ∧ H1 a = some (.ins C dx fs) ∧ fs.lookup ("closing" : Str) = none ∧
  tCons t1 tNil σ H1 fun vs H2 => tCons t2 (tCons t3 tNil) σ H2 fun zs H3 => ∃ y1 y2 y3, vs = [y1] ∧ zs = [y2, y3] ∧ ∀ p, H3 p = none → sp [.ref a, y2, y3, .ref p] (upd H3 p (.tup [y1])) Q E0
section
variable {P : Program} {w : World} {K : PySem.W.Frag} {mg : Str → Option Value} {base : Heap} {f C : Addr} {fd : FuncData}
theorem clo_of (cl : Cls K C) (me : Meth K C "closing" f) (F : Fun K "closing" "Way.closing" s_closing f fd) (B : Bt mg) (T : Wt K mg C) (cC : CalO P w K mg base 3 "check_walker" spChk) (cK : Mo P w K mg base 3 C "_checked_places" (spChecked K C)) (cP : CalO P w K mg base 4 "pairs_of" (spPairs K C)) (cW : CalO P w K mg base 2 "with_cell" (spCell K)) (cX : CalO P w K mg base 6 "way_with" (spWith K C)) :
    Clo P w K mg base 7 C (spClosing K C) := by
  refine ⟨f, cl, me, fun A outer s H us a v x y Q hr e0 rv hsp u0 u1 u2 u3 eu => ?_⟩
  subst eu
  obtain ⟨oc, od, kV, doc, pm, an, cdv, ct, osl, rfl, lk, hcd⟩ := F.ex
  cases rv with
  | cons r0 rv =>
  cases rv with
  | cons r1 rv =>
  cases rv with
  | cons r2 rv =>
  cases rv with
  | cons r3 rv =>
  have hn : H s.heap.objs.size = Option.none := e0.hok.fresh (Nat.le_refl _)
  refine StX.run_bnd lk hcd sc_closing hr e0 (G := fun xs H2 => ∃ p, H p = Option.none ∧ xs = [.ref a, x, y, V.ref p] ∧ H2 = upd H p (.tup [v])) (fun A' Ex Q' h => ?_) fun s2 H2 xs ⟨p, hp, ex, eH⟩ hr' => ?_
  · rw [bind_closing]
    refine wpAny_bind (wpAny_newTuple (wpAny_pure ?_) (by show 1 ≤ sizeLine; decide))
    have new : ObjOk P w (upd H s.heap.objs.size (.tup [v])) (s.heap.push ({ cls := .type "tuple", data := .seq [u1].toArray } : Obj)) s.heap.objs.size (.tup [v]) := ⟨by show 1 ≤ sizeLine; decide, [u1], .cons r1 .nil, ⟨_, Heap.get?_push_size _ rfl, rfl, _, rfl⟩⟩
    have un := StX.un_laid (fs := frs outer) (s := s) (o := ({ cls := .type "tuple", data := .seq [u1].toArray } : Obj)) (u := .tup [v]) hn
    exact h _ _ [.ref a, x, y, V.ref s.heap.objs.size] [u0, u2, u3, Value.ref s.heap.objs.size] (StX.env0_laid e0 new) un rfl (fun e s' z => z) (.cons r0 (.cons r2 (.cons r3 (.cons rfl .nil)))) rfl ⟨_, hn, rfl, rfl⟩
  · subst ex eH
    exact body_closing B T cC cK cP cW cX hr' (hsp p hp)
end
section
variable {X : Cx} {k j : Nat} {C : Addr} {sp : Sp} {pos apos q2 q3 : Pos} {o e1 e2 e3 : Expr} {ta t1 t2 t3 : TE}
theorem pe_closing {pl : Sem Bool} (c : Clo X.prog X.w X.K X.mg X.base k C sp) (hr : Room j X.A) (hk : k ≤ j) (he : PE X o ta) (h1 : PE X e1 t1) (h2 : PE X e2 t2) (h3 : PE X e3 t3)
    (hst : starEach [e1] X.env = (false, eval e1 X.env) :: starEach [] X.env := by rfl)
    (hpl : ((backTo pos (starEach [e1] X.env)).any (·.1) || (backToKw pos (keywordEach [⟨some "right", e2, q2⟩, ⟨some "left", e3, q3⟩] X.env)).any (·.1.isNone)) = false := by rfl)
    (hall : (backToKw pos (keywordEach [⟨some "right", e2, q2⟩, ⟨some "left", e3, q3⟩] X.env)).all (·.1.isSome) = true := by rfl)
    (ht : eval (.Call (.Attribute o "closing" apos) [e1] [⟨some "right", e2, q2⟩, ⟨some "left", e3, q3⟩] pos) X.env = (do
      let ov ← eval o X.env
      standAt apos.atName
      let (f, first) ← holding [ov] (getMethod ov "closing" pl)
      callWith pos f first (backTo pos (starEach [e1] X.env)) (backToKw pos (keywordEach [⟨some "right", e2, q2⟩, ⟨some "left", e3, q3⟩] X.env))) := by rfl) :
    PE X (.Call (.Attribute o "closing" apos) [e1] [⟨some "right", e2, q2⟩, ⟨some "left", e3, q3⟩] pos) (tClo C sp ta t1 t2 t3) := by
  obtain ⟨f, cl, me, run⟩ := c.ex
  refine ⟨fun pins s σ H Q I h => ?_⟩
  refine PySem.W.methodCall_KW (pl := pl) (thn (he.run pins s σ H _ I h) fun u s1 ⟨x, H1, I1, rx, a, dx, fs, ex, ea, l, q⟩ => ?_) ht
  subst ex
  obtain rfl : u = Value.ref a := rx
  refine getmeth_ok I1 ea cl me l ?_
  refine PySem.W.callWith_KW (first := [.ref a]) (h₀ := X.base) I1.ok.mod.kin me.kp hall (thn ((pa_cons h1 pa_nil hst).run pos pins s1 σ H1 _ I1 q) fun us s2 ⟨vs, H2, I2, r, q2⟩ => ?_) hpl hst
  refine thn ((pk_cons h2 (pk_cons h3 pk_nil)).run pos pins s2 σ H2 _ I2 q2) fun ws s3 ⟨zs, H3, I3, rz, y1, y2, y3, ev, ez, q3⟩ => ⟨I3.kIn, ?_⟩
  subst ev
  subst ez
  obtain ⟨u1, rfl, r1⟩ := vals1 r
  obtain ⟨w2, w3, rfl, r2, r3⟩ := vals2 rz
  show wpAny (model X.prog X.w) X.A (call (.ref f) [.ref a, u1] [("right", w2), ("left", w3)]) (EP X pins σ Q) X.xe s3
  refine wpAny_call (codeAny_mono (run X.A X.stack s3 H3 [.ref a, u1, w2, w3] a y1 y2 y3 Q (hr.mono hk) I3.env0 (.cons rfl (.cons r1 (.cons r2 (.cons r3 .nil)))) q3 _ _ _ _ rfl) fun r s' hq => ?_)
  cases r with
  | error e => exact False.elim hq
  | ok fl =>
    cases fl with
    | ret u => exact I3.after hq
    | next => exact False.elim hq
    | brk => exact False.elim hq
    | cont => exact False.elim hq
end
end W2

namespace PySem.W
open PySem PySem.Calls PyProof.Rows
section
variable {prog : Program} {w : World} {A : Around} {E : Value → Shared → Prop} {s : Shared} {K : Frag} {x C L f : Addr} {h₀ : Heap} {m : Str → Option Value} {ox : Obj} {od : Option Obj} {name : Str} {b tb : Value}
theorem r2_ifBound {M : Model} {args : List Value} {id T : String} {Q : Option Value → Shared → Prop} (X : K.In s.heap) (I : InstAt s.heap x ox C od) (hs : findIn K (.ref C) name = some (some (.builtin id))) (S : Slot T name id)
    (h : wpAny M A (call (.builtin id) (.ref x :: args)) (fun v => Q (some v)) E s) : wpAny M A (callSpecialIfBound? (.ref x) name args) Q E s := by
  simp only [callSpecialIfBound?, bindSpecialIfBound?]
  refine wpAny_holding (wpAny_bind (wpAny_bind (wpAny_bind (I.type.here ((looks_findIn X hs).here ?_)))))
  refine wpAny_bind (wpAny_askSetting (wpAny_ite ?_))
  have fin : wpAny M A (call (.builtin id) ([.ref x] ++ args) >>= fun v => pure (some v)) Q E s := wpAny_bind (wpAny_mono h (fun v s' h' => wpAny_pure h') fun _ _ h' => h')
  simp only [S.bind]
  split
  · exact wpAny_bind (wpAny_pure (wpAny_pure fin))
  · exact wpAny_tryCatch (wpAny_bind (wpAny_pure (wpAny_pure fin)))
def R2Bool (Q : Bool → Shared → Prop) (v : Value) (s' : Shared) : Prop := ∃ b, v = .bool b ∧ Q b s'
/-- x != b where the class has an own ==, and object's != -/
theorem r2_ne {Q : Value → Shared → Prop} (hu : A.units + 1 < cLine) (F : Fr h₀ L s.heap m) (X₀ : K.In h₀) (I : InstAt s.heap x ox C od) (hb : Looks (model prog w) s.heap (typeOf b) tb) (hn : notFirst K C tb = true)
    (hne : findIn K (.ref C) "__ne__" = some (some (.builtin "object.__ne__"))) (hi : Looks (model prog w) s.heap (isInstance (.ref x) (.type "object")) true) (hs : findIn K (.ref C) "__eq__" = some (some (.ref f))) (hf : isFn K (.ref f) = true)
    (h : wpAny (model prog w) A.in1 (call (.ref f) [.ref x, b]) (R2Bool fun c => Q (.bool (!c))) E s) : wpAny (model prog w) A (richCompare .NotEq (.ref x) b) Q E s := by
  have X := X₀.keeps F.keep
  have body : wpAny (model prog w) A (call (.builtin "object.__ne__") [.ref x, b]) (fun v s' => (∃ c, v = .bool c) ∧ Q v s') E s := by
    refine wpAny_call (codeAny_call_builtin PySem.F.cmp_object.ne.plain PySem.F.cmpEntry_ne (check_slot PySem.F.cmpKind_ne PySem.F.cmpSplit_ne hi (PySem.F.cmpArgs_ne _ _) ?_))
    unfold Builtin.«object.__ne__»
    refine wpAny_bind (m := slotArgs "__ne__" 1 _) (wpAny_pure ?_)
    refine wpAny_bind (wpAny_cRoomFor (by show A.units + 1 < cLine; omega) ?_)
    refine wpAny_bind (ifBound_K X I hs hf (wpAny_mono h (fun v s' hv => ?_) fun _ _ e => e))
    obtain ⟨c, rfl, q⟩ := hv
    refine wpAny_bind (m := truthy (.bool c)) (wpAny_pure ?_)
    exact wpAny_pure ⟨⟨_, rfl⟩, q⟩
  have one : wpAny (model prog w) A (tryCompare (.ref x) "__ne__" b) (fun r s' => ∃ v, r = some v ∧ Q v s') E s := by
    unfold tryCompare
    refine wpAny_bind (r2_ifBound X I hne PySem.F.cmp_object.ne (wpAny_mono body (fun v s' hv => ?_) fun _ _ e => e))
    obtain ⟨⟨c, rfl⟩, q⟩ := hv
    exact wpAny_pure ⟨_, rfl, q⟩
  unfold richCompare
  simp only [oneThing_ref]
  refine wpAny_holding (wpAny_bind (wpAny_cRoomFor (by omega) ?_))
  refine wpAny_bind (I.type.here (wpAny_bind (hb.here ?_)))
  split
  · rename_i q
    have e : subIn K tb (.ref C) = some false := by
      rcases Bool.or_eq_true_iff.mp hn with e | e
      · rw [beq_iff_eq.mp e] at q; simp at q
      · exact beq_iff_eq.mp e
    refine wpAny_bind ((looks_subIn X e).here ?_)
    simp only [Bool.false_eq_true, if_false]
    refine wpAny_bind (wpAny_mono one (fun r s' z => ?_) fun _ _ e => e)
    obtain ⟨v, rfl, hq⟩ := z
    exact wpAny_pure hq
  · refine wpAny_bind (wpAny_pure ?_)
    simp only [Bool.false_eq_true, if_false]
    refine wpAny_bind (wpAny_mono one (fun r s' z => ?_) fun _ _ e => e)
    obtain ⟨v, rfl, hq⟩ := z
    exact wpAny_pure hq
end
end PySem.W

namespace W2
open PySem PySem.Spec PyProof.Rows L2 Pg Pf Rul Tab
/-- data that is compared and shown: no texts but short ones, no dicts; its depth, its weight -/
structure Fine (n wt : Nat) (d : PyData) : Prop where
  lay : d.canLay0 = true
  sh : d.showable = true
  dp : d.depth ≤ n
  sl : d.leavesShort 13 = true
  wt : d.weight ≤ wt
structure FineAll (n wt : Nat) (ds : List PyData) : Prop where
  lay : PyData.canLayAll0 ds = true
  sh : PyData.showableAll ds = true
  dp : PyData.depthAll ds ≤ n
  sl : PyData.leavesShortAll 13 ds = true
  wt : PyData.weightAll ds ≤ wt
theorem Fine.mono {n n' wt wt' : Nat} {d : PyData} (f : Fine n wt d) (h : n ≤ n') (h2 : wt ≤ wt') : Fine n' wt' d := ⟨f.lay, f.sh, Nat.le_trans f.dp h, f.sl, Nat.le_trans f.wt h2⟩
theorem FineAll.nil {n wt : Nat} : FineAll n wt [] := ⟨rfl, rfl, Nat.zero_le _, rfl, Nat.zero_le _⟩
theorem FineAll.cons {n a b : Nat} {d : PyData} {ds : List PyData} (f : Fine n a d) (g : FineAll n b ds) : FineAll n (a + 1 + b) (d :: ds) := by
  refine ⟨?_, ?_, ?_, ?_, ?_⟩
  · show (d.canLay0 && PyData.canLayAll0 ds) = true
    rw [f.lay, g.lay]
    rfl
  · show (d.showable && PyData.showableAll ds) = true
    rw [f.sh, g.sh]
    rfl
  · show max d.depth (PyData.depthAll ds) ≤ n
    exact Nat.max_le.mpr ⟨f.dp, g.dp⟩
  · show (d.leavesShort 13 && PyData.leavesShortAll 13 ds) = true
    rw [f.sl, g.sl]
    rfl
  · show d.weight + 1 + PyData.weightAll ds ≤ _
    have := f.wt
    have := g.wt
    omega
theorem FineAll.all {n wt : Nat} : ∀ {ds : List PyData}, (∀ d ∈ ds, Fine n wt d) → FineAll n (ds.length * (wt + 1)) ds
  | [], _ => .nil
  | d :: ds, h => by
    have z := FineAll.cons (h d List.mem_cons_self) (FineAll.all (ds := ds) fun x hx => h x (List.mem_cons_of_mem _ hx))
    rw [List.length_cons, Nat.succ_mul, Nat.add_comm]
    exact z
theorem FineAll.monoW {n wt wt' : Nat} {ds : List PyData} (f : FineAll n wt ds) (h : wt ≤ wt') : FineAll n wt' ds := ⟨f.lay, f.sh, f.dp, f.sl, Nat.le_trans f.wt h⟩
theorem FineAll.list {n wt : Nat} {ds : List PyData} (f : FineAll n wt ds) : Fine (n + 1) wt (.list ds) := ⟨f.lay, f.sh, Nat.succ_le_succ f.dp, f.sl, f.wt⟩
theorem FineAll.tuple {n wt : Nat} {ds : List PyData} (f : FineAll n wt ds) : Fine (n + 1) wt (.tuple ds) := ⟨f.lay, f.sh, Nat.succ_le_succ f.dp, f.sl, f.wt⟩
theorem log2_small {i : Int} (h : i.natAbs < 2 ^ 30) : i.natAbs.log2 < 30 := by
  by_cases z : i.natAbs = 0
  · rw [z]
    decide
  · exact (Nat.log2_lt z).mpr h
theorem Fine.int {n : Nat} {i : Int} (h : i.natAbs < 2 ^ 30) : Fine n 31 (.int i) := by
  have hl := log2_small h
  refine ⟨rfl, ?_, Nat.zero_le _, ?_, ?_⟩
  · show decide (i.natAbs.log2 < 1920) = true
    exact decide_eq_true (by omega)
  · show decide ((PyData.shown (.int i)).length ≤ 13) = true
    exact decide_eq_true (PyData.shown_int_le (by omega))
  · show (if i == 0 then 0 else i.natAbs.log2 + 1) ≤ 31
    split <;> omega
theorem Fine.bool {n : Nat} (b : Bool) : Fine n 0 (.bool b) := ⟨rfl, rfl, Nat.zero_le _, rfl, Nat.zero_le _⟩
theorem Fine.none {n : Nat} : Fine n 0 .none := ⟨rfl, rfl, Nat.zero_le _, rfl, Nat.zero_le _⟩
theorem fine_cell {k : Int} {ns : List Int} (h : Cell k ns) (hk : k ≤ 12) : Fine 1 384 (cellD ns) := by
  have h1 := cell_len h hk
  have z : FineAll 0 ((ns.map PyData.int).length * 32) (ns.map PyData.int) := FineAll.all fun d hd => by
    obtain ⟨x, hx, rfl⟩ := List.mem_map.mp hd
    have := h.2.2 x hx
    exact Fine.int (by omega)
  rw [List.length_map] at z
  exact (z.monoW (by omega)).tuple
theorem fine_rowL {k : Int} {r : List (List Int)} (h : ∀ c ∈ r, Cell k c) (hk : k ≤ 12) (hl : r.length ≤ 6) : Fine 2 2310 (rowL r) := by
  have z : FineAll 1 ((r.map cellD).length * 385) (r.map cellD) := FineAll.all fun d hd => by
    obtain ⟨x, hx, rfl⟩ := List.mem_map.mp hd
    exact fine_cell (h x hx) hk
  rw [List.length_map] at z
  exact (z.monoW (by omega)).list
theorem fine_rowT {k : Int} {r : List (List Int)} (h : ∀ c ∈ r, Cell k c) (hk : k ≤ 12) (hl : r.length ≤ 6) : Fine 2 2310 (rowT r) := by
  have z : FineAll 1 ((r.map cellD).length * 385) (r.map cellD) := FineAll.all fun d hd => by
    obtain ⟨x, hx, rfl⟩ := List.mem_map.mp hd
    exact fine_cell (h x hx) hk
  rw [List.length_map] at z
  exact (z.monoW (by omega)).tuple
theorem tabF_mem {r l : Nat} {c : Nat → Nat → List Int} {x : List (List Int)} (h : x ∈ tabF r l c) : ∃ i, i < r ∧ x = (List.range l).map fun j => c i j := by
  unfold tabF at h
  obtain ⟨i, hi, rfl⟩ := List.mem_map.mp h
  exact ⟨i, List.mem_range.mp hi, rfl⟩
theorem fine_tabT {r l : Nat} {k : Int} {c : Nat → Nat → List Int} (h : ∀ i j, i < r → j < l → Cell k (c i j)) (hk : k ≤ 12) (hr : r ≤ 6) (hl : l ≤ 6) : Fine 3 13866 (tabT (tabF r l c)) := by
  have z : FineAll 2 (((tabF r l c).map rowT).length * 2311) ((tabF r l c).map rowT) := FineAll.all fun d hd => by
    obtain ⟨x, hx, rfl⟩ := List.mem_map.mp hd
    obtain ⟨i, hi, rfl⟩ := tabF_mem hx
    refine fine_rowT (k := k) (fun y hy => ?_) hk (by rw [List.length_map, List.length_range]; exact hl)
    obtain ⟨j, hj, rfl⟩ := List.mem_map.mp hy
    exact h i j hi (List.mem_range.mp hj)
  rw [List.length_map, tabF_len] at z
  exact (z.monoW (by omega)).tuple
theorem Fine.shaped {n wt : Nat} {d : PyData} (f : Fine n wt d) (h : n ≤ 64) : SeqAt.shaped d = true := by
  show (d.canLay0 && decide (d.depth ≤ 64)) = true
  rw [f.lay, decide_eq_true (Nat.le_trans f.dp h)]
  rfl
theorem Fine.fits {n wt : Nat} {d : PyData} (f : Fine n wt d) (h : wt ≤ 1000000) : d.shown.length ≤ sizeLine := PyData.shown_fits (B := 13) (by decide) (by decide) f.sl (by have := f.wt; omega)
theorem Fine.nodict {n wt : Nat} {d : PyData} (f : Fine n wt d) : d.hasDict = false := PyData.hasDict_of_canLay d f.lay
/-- repr of such data -/
theorem rd_repr {X : Cx} {H : Hp} {a : Addr} {d : PyData} {n wt : Nat} {Q : VK} (hd : Dp X.K H (.ref a) d) (f : Fine n wt d) (hn : n ≤ 60) (hw : wt ≤ 1000000) (q : Q (.str d.shown) H) :
    ∃ a' d', [V.ref a] = [.ref a'] ∧ Dp X.K H (.ref a') d' ∧ d'.showable = true ∧ d'.hasDict = false ∧ d'.depth ≤ 60 ∧ d'.shown.length ≤ sizeLine ∧ Q (.str d'.shown) H :=
  ⟨a, d, rfl, hd, f.sh, f.nodict, Nat.le_trans f.dp hn, f.fits hw, q⟩
mutual
theorem eqv_rfl : ∀ d : PyData, d.canLay0 = true → PyData.eqv d d = true
  | .none, _ => rfl
  | .bool b, _ => by simp [PyData.eqv]
  | .int i, _ => by simp [PyData.eqv]
  | .str x, _ => by simp [PyData.eqv]
  | .list ds, h => eqvAll_rfl ds h
  | .tuple ds, h => eqvAll_rfl ds h
  | .dict _, h => by cases h
theorem eqvAll_rfl : ∀ ds : List PyData, PyData.canLayAll0 ds = true → PyData.eqvAll ds ds = true
  | [], _ => rfl
  | d :: ds, h => by
    have h' := Bool.and_eq_true_iff.mp (show (d.canLay0 && PyData.canLayAll0 ds) = true from h)
    show (PyData.eqv d d && PyData.eqvAll ds ds) = true
    rw [eqv_rfl d h'.1, eqvAll_rfl ds h'.2]
    rfl
end
end W2

namespace W2
open PySem PySem.Spec PyProof.Rows L2 Pg Pf Rul Tab
theorem asc_ext : ∀ {as bs : List Int}, as.Pairwise (· < ·) → bs.Pairwise (· < ·) → (∀ x, x ∈ as ↔ x ∈ bs) → as = bs
  | [], [], _, _, _ => rfl
  | [], b :: bs, _, _, h => absurd ((h b).mpr List.mem_cons_self) (by simp)
  | a :: as, [], _, _, h => absurd ((h a).mp List.mem_cons_self) (by simp)
  | a :: as, b :: bs, ha, hb, h => by
    rw [List.pairwise_cons] at ha hb
    have e : a = b := by
      rcases List.mem_cons.mp ((h a).mp List.mem_cons_self) with z | z
      · exact z
      · rcases List.mem_cons.mp ((h b).mpr List.mem_cons_self) with y | y
        · exact y.symm
        · have h1 := hb.1 a z
          have h2 := ha.1 b y
          omega
    subst e
    rw [asc_ext ha.2 hb.2 fun x => ?_]
    constructor
    · intro hx
      rcases List.mem_cons.mp ((h x).mp (List.mem_cons_of_mem _ hx)) with z | z
      · have := ha.1 x hx
        omega
      · exact z
    · intro hx
      rcases List.mem_cons.mp ((h x).mpr (List.mem_cons_of_mem _ hx)) with z | z
      · have := hb.1 x hx
        omega
      · exact z
theorem range_asc (k : Int) : (rangeI k).Pairwise (· < ·) := by
  unfold rangeI
  rw [List.pairwise_map]
  exact List.pairwise_lt_range.imp fun h => by omega
theorem range_mem {k x : Int} : x ∈ rangeI k → 0 ≤ x ∧ x < k := by
  intro h
  unfold rangeI at h
  obtain ⟨i, hi, rfl⟩ := List.mem_map.mp h
  rw [List.mem_range] at hi
  omega
theorem filter_cell {k : Int} {ns : List Int} (h : Cell k ns) : ((rangeI k).filter fun x => decide (x ∈ ns)) = ns :=
  asc_ext ((range_asc k).filter _) h.2.1 fun x => by
    rw [List.mem_filter, decide_eq_true_eq]
    exact ⟨fun z => z.2, fun z => ⟨mem_range (h.2.2 x z).1 (h.2.2 x z).2, z⟩⟩
/-- a net as data, by its entries -/
def netF (e w k : Nat) (c : Nat → Nat → List Int) : PyData := .tuple [.int (e : Nat), .int (w : Nat), .int (k : Nat), tabL (tabF e w c)]
/-- what stays of all places when some are gone -/
def stay (k : Int) (gone : List Int) : List Int := (rangeI k).filter fun x => !decide (x ∈ gone)
theorem stay_snoc (k : Int) (gone : List Int) (z : Int) : (stay k gone).filter (fun x => !decide (x ∈ [z])) = stay k (gone ++ [z]) := by
  unfold stay
  rw [List.filter_filter]
  apply List.filter_congr
  intro x _
  by_cases h1 : x ∈ gone <;> by_cases h2 : x = z <;> simp [h1, h2]
theorem stay_nil (k : Int) : stay k [] = rangeI k := by
  unfold stay
  simp
def goneOf (k : Int) (ns : List Int) : List Int := (rangeI k).filter fun x => !decide (x ∈ ns)
theorem stay_gone {k : Int} {ns : List Int} (h : Cell k ns) : stay k (goneOf k ns) = ns := by
  have e : stay k (goneOf k ns) = (rangeI k).filter fun x => decide (x ∈ ns) := by
    unfold stay goneOf
    apply List.filter_congr
    intro x hx
    by_cases h1 : x ∈ ns <;> simp [h1, hx]
  rw [e, filter_cell h]
theorem stay_ne {k : Int} {ns gone : List Int} (h : Cell k ns) (hg : ∀ x ∈ gone, x ∈ goneOf k ns) : stay k gone ≠ [] := by
  obtain ⟨h0, h1, h2⟩ := h
  cases ns with
  | nil => exact absurd rfl h0
  | cons a b =>
    intro z
    have ha := h2 a List.mem_cons_self
    have : a ∈ stay k gone := by
      unfold stay
      rw [List.mem_filter]
      refine ⟨mem_range ha.1 ha.2, ?_⟩
      have : ¬ a ∈ gone := fun y => by
        have := hg a y
        unfold goneOf at this
        rw [List.mem_filter] at this
        simp at this
      simp [this]
    rw [z] at this
    cases this
theorem stay_cell {k : Int} {ns gone : List Int} (h : Cell k ns) (hg : ∀ x ∈ gone, x ∈ goneOf k ns) : Cell k (stay k gone) :=
  ⟨stay_ne h hg, (range_asc k).filter _, fun x hx => range_mem (List.mem_filter.mp hx).1⟩
/-- the net's list of rows: how it is read -/
theorem net_vals {K : PySem.W.Frag} {G : Hp} {t : Addr} {e w k : Nat} {c : Nat → Nat → List Int} (h : Dp K G (.ref t) (netF e w k c)) :
    ∃ (rl : Addr) (xs : List V), SqT K G t [.int (e : Nat), .int (w : Nat), .int (k : Nat), .ref rl] ∧ SqL K G rl xs ∧ DpAll K G xs ((tabF e w c).map rowL) := by
  cases h with
  | tup a b =>
    cases b with
    | cons b1 b =>
    cases b with
    | cons b2 b =>
    cases b with
    | cons b3 b =>
    cases b with
    | cons b4 b =>
    cases b
    cases b1
    cases b2
    cases b3
    cases b4 with
    | lst a2 b2 => exact ⟨_, _, a, a2, b2⟩
theorem row_vals {K : PySem.W.Frag} {G : Hp} {v : V} {r : List (List Int)} (h : Dp K G v (rowL r)) : ∃ (x : Addr) (ys : List V), v = .ref x ∧ SqL K G x ys ∧ DpAll K G ys (r.map cellD) := by
  cases h with
  | lst a b => exact ⟨_, _, rfl, a, b⟩
def spWay (K : PySem.W.Frag) (C : Addr) : Sp := fun vs H Q _ => ∃ (G : Hp) (t : Addr) (e w k : Nat) (c : Nat → Nat → List Int), vs = [.ref t] ∧ Same G H ∧ Dp K G (.ref t) (netF e w k c) ∧ 1 ≤ e ∧ e ≤ 6 ∧ 1 ≤ w ∧ w ≤ 6 ∧ 1 ≤ k ∧ k ≤ 12 ∧ (∀ i j, i < e → j < w → Cell (k : Int) (c i j)) ∧
  ∀ (a : Addr) (G' H' : Hp), Fut G H G' H' → WayAt K C G' a e w k c → Q (.ref a) H'
abbrev s__law_way : Stmt := top 24
abbrev N__law_way : List Str := ["_law_net_here", "_law_road", "_law_n", "_law_row", "_law_k", "_law_some_here", "_law_spot", "_law_gone"]
theorem sc__law_way : FnScope N__law_way ["_law_net_here"] (defScope s__law_way) := ⟨rfl, rfl, rfl, by decide +kernel, rfl, by decide +kernel, by decide +kernel⟩
/-- what the places are while the pair (i, j) is being done -/
def done (k : Int) (c : Nat → Nat → List Int) (i j : Nat) (now : List Int) : Nat → Nat → List Int := fun x y => if x < i ∨ (x = i ∧ y < j) then c x y else if x = i ∧ y = j then now else rangeI k
theorem WayAt.congr {K : PySem.W.Frag} {C : Addr} {G : Hp} {a : Addr} {r l k : Nat} {c c' : Nat → Nat → List Int} (W : WayAt K C G a r l k c) (h : ∀ i j, i < r → j < l → c i j = c' i j) : WayAt K C G a r l k c' :=
  ⟨by rw [← tabF_congr h]; exact W.ob, W.r1, W.r2, W.l1, W.l2, W.k1, W.k2, fun i j hi hj => by rw [← h i j hi hj]; exact W.ok i j hi hj⟩
section
variable {P : Program} {w : World} {K : PySem.W.Frag} {mg : Str → Option Value} {base : Heap} {f C : Addr} {fd : FuncData}
theorem ok_way (B : Bt mg) (cM : Ma P w K mg base 4 "Way" C (spInit K C)) (cL : Clo P w K mg base 7 C (spClosing K C)) (F : Fun K "_law_way" "_law_way" s__law_way f fd) : FnG P w K mg base 8 f fd ["_law_net_here"] (spWay K C) := by
  refine okG F sc__law_way (fun vs H Q E h => ?_) (fun cdv A outer s H vs Q E hr hgd h => ?_)
  · obtain ⟨G, t, e, w, k, c, rfl, _⟩ := h
    rfl
  · obtain ⟨G, t, e, wd, k, c, rfl, sG, hd, e1, e2, w1, w2, k1, k2, hok, q⟩ := h
    have nd := sc__law_way.nd
    refine ⟨_, (pss_cons (ps_set (i := 1) nd rfl (Or.inl rfl) (pe_ma cM hr (by decide) rfl (pa_cons (pe_ix ix_tup (pv 0) pe_int (fun _ _ => rfl)) (pa_cons (pe_ix ix_tup (pv 0) pe_int (fun _ _ => rfl)) (pa_cons (pe_ix ix_tup (pv 0) pe_int (fun _ _ => rfl)) pa_nil)))))
      (pss_cons (ps_for PassesOwn.never rfl (pi_enum (by rfl) B.enumerate (pa_cons (pe_ix ix_tup (pv 0) pe_int (fun _ _ => rfl)) pa_nil)) (pg_tup rfl (pgs_cons (pg_name (i := 2) nd rfl (Or.inl rfl)) (pgs_cons (pg_name (i := 3) nd rfl (Or.inl rfl)) pgs_nil)))
      (pss_one (ps_for PassesOwn.never rfl (pi_enum (by rfl) B.enumerate (pa_cons (pv 3) pa_nil)) (pg_tup rfl (pgs_cons (pg_name (i := 4) nd rfl (Or.inl rfl)) (pgs_cons (pg_name (i := 5) nd rfl (Or.inr rfl)) pgs_nil)))
      (pss_cons (ps_setLc (i := 7) (own := [("_law_spot", 6)]) rfl nd rfl rfl (sw_true rfl rfl rfl (by decide +kernel)) (pi_range1 rfl B.range (pa_cons (pe_ix ix_tup (pv 0) pe_int (fun _ _ => rfl)) pa_nil)) (blkOk_by (N := N__law_way) (sc := defScope s__law_way) (by decide +kernel)) (fun _ _ _ _ _ => (pg_name (i := 6) nd rfl (Or.inl rfl))) (fun _ _ _ _ _ => pts_one (pt_cmpR (show OpR _ (compareOp .NotIn) (rIn K true) from op_notIn_seq) (pv 6) (pv 5) (by rfl))) (fun _ _ _ _ _ => (pv 6)))
      (pss_one (ps_for PassesOwn.never rfl (pi_list (pv 7)) (pg_name (i := 6) nd rfl (Or.inl rfl))
      (pss_one (ps_set (i := 1) nd rfl (Or.inl rfl) (pe_closing cL hr (by decide) (pv 1) (pv 6) (pv 2) (pv 4)))))))))) 
      (pss_one (ps_ret (pv 1))))), ?_⟩
    obtain ⟨rl, xs, hS, hL, hA⟩ := net_vals hd
    have lx : xs.length = e := by rw [DpAll.len hA, List.length_map, tabF_len]
    refine ⟨_, rfl, t, _, _, _, rfl, rfl, Evl.ex_t sG hS, atI_nat (j := 0) rfl, _, rfl, t, _, _, _, rfl, rfl, Evl.ex_t sG hS, atI_nat (j := 1) rfl, _, rfl, t, _, _, _, rfl, rfl, Evl.ex_t sG hS, atI_nat (j := 2) rfl, ?_⟩
    dsimp only [tNil]
    refine mk_way sG e1 e2 w1 w2 k1 k2 fun a1 G1 H1 f1 W1 => ?_
    refine ⟨_, rfl, t, _, _, _, rfl, rfl, Evl.ex_t (f1.g.trans f1.s) hS, atI_nat (j := 3) rfl, rl, xs, rfl, Same.seq (f1.g.trans f1.s) hL, for_it walk_enum (fun i σ H3 => ∃ (G3 : Hp) (a : Addr) (v2 v3 v4 v5 v6 v7 : Option V), σ = [some (.ref t), some (.ref a), v2, v3, v4, v5, v6, v7] ∧ Fut G H G3 H3 ∧ WayAt K C G3 a e wd k (done k c i 0 (rangeI k)))
      ⟨G1, a1, none, none, none, none, none, none, rfl, f1, W1.congr fun x y _ _ => by unfold done; rw [if_neg (by omega)]; split <;> rfl⟩ (fun i σ H3 _ ⟨G3, _, _, _, _, _, _, _, _, f3, _⟩ => Same.seq (f3.g.trans f3.s) hL) ?_ ?_⟩
    · rintro i x σ H3 H4 hi ⟨G3, a, v2, v3, v4, v5, v6, v7, rfl, f3, W3⟩ ⟨T', x1, y1, rfl, hT, rfl, q1, q2⟩
      obtain rfl := Option.some.inj q1
      replace q2 : xs[i]? = some y1 := q2
      have hie : i < e := by omega
      obtain ⟨d, hd1, hd2⟩ := DpAll.at' hA q2
      rw [List.getElem?_map, tabF_at hie] at hd1
      obtain rfl := Option.some.inj hd1
      obtain ⟨xr, ys, rfl, hLr, hAr⟩ := row_vals hd2
      have ly : ys.length = wd := by rw [DpAll.len hAr, List.length_map, List.length_map, List.length_range]
      have f4 := f3.trans (Fut.up f3.s (Same.new (o := .tup [V.int (i : Nat), .ref xr]) hT))
      have hT4 : (upd H3 T' (.tup [V.int (i : Nat), .ref xr])) T' = some (.tup [V.int (i : Nat), .ref xr]) := upd_same
      generalize (upd H3 T' (.tup [V.int (i : Nat), .ref xr])) = H4 at f4 hT4 ⊢
      refine ⟨T', _, rfl, SqT.of hT4, rfl, _, _, rfl, _, _, rfl, rfl, ?_⟩
      refine ⟨_, rfl, xr, ys, rfl, Same.seq (f4.g.trans f4.s) hLr, for_it walk_enum (fun j σ H5 => ∃ (G5 : Hp) (a : Addr) (v4 v5 v6 v7 : Option V), σ = [some (.ref t), some (.ref a), some (.int (i : Nat)), some (.ref xr), v4, v5, v6, v7] ∧ Fut G H G5 H5 ∧ WayAt K C G5 a e wd k (done k c i j (rangeI k)))
        ⟨G3, a, v4, v5, v6, v7, rfl, f4, W3⟩ (fun j σ H5 _ ⟨G5, _, _, _, _, _, _, f5, _⟩ => Same.seq (f5.g.trans f5.s) hLr) ?_ ?_⟩
      · rintro j x σ H5 H6 hj ⟨G5, a, v4, v5, v6, v7, rfl, f5, W5⟩ ⟨T2, x2, y2, rfl, hT2, rfl, p1, p2⟩
        obtain rfl := Option.some.inj p1
        replace p2 : ys[j]? = some y2 := p2
        have hjw : j < wd := by omega
        obtain ⟨d, hd3, hd4⟩ := DpAll.at' hAr p2
        rw [List.getElem?_map, rowF_at hjw] at hd3
        obtain rfl := Option.some.inj hd3
        obtain ⟨xc, rfl⟩ : ∃ xc, y2 = .ref xc := by
          cases hd4 with
          | tup a b => exact ⟨_, rfl⟩
        have hcv := cell_vals hd4
        have hc := hok i j hie hjw
        have f6 := f5.trans (Fut.up f5.s (Same.new (o := .tup [V.int (j : Nat), .ref xc]) hT2))
        have hT6 : (upd H5 T2 (.tup [V.int (j : Nat), .ref xc])) T2 = some (.tup [V.int (j : Nat), .ref xc]) := upd_same
        generalize (upd H5 T2 (.tup [V.int (j : Nat), .ref xc])) = H6 at f6 hT6 ⊢
        refine ⟨T2, _, rfl, SqT.of hT6, rfl, _, _, rfl, _, _, rfl, rfl, ?_⟩
        refine ⟨_, rfl, t, _, _, _, rfl, rfl, Evl.ex_t (f6.g.trans f6.s) hS, atI_nat (j := 2) rfl, (k : Nat), rfl, by omega, by omega, fun D hD => ?_⟩
        rw [show ((k : Nat) : Int).toNat = k by omega]
        refine lc_range (lo := 0) (n := k) (fun m H7 => ∃ acc : List Int, H7 D = some (.lst (acc.map V.int)) ∧ Same H6 H7 ∧ acc.length ≤ m ∧ acc = (((List.range m).map fun i => (0 : Int) + (i : Nat)).filter fun x => !decide (x ∈ c i j))) ⟨[], upd_same, Same.new hD, by simp, rfl⟩ ?_ ?_
        · rintro m H7 hm ⟨acc, hA7, s7, la, ea⟩
          refine ⟨rfl, ?_⟩
          refine ⟨_, rfl, _, rfl, xc, _, rfl, .inr (Evl.ex_t ((f6.g.trans f6.s).trans s7) hcv), rfl, flat_ints _, _, rfl, ?_⟩
          rw [if_pos rfl, inV_ints]
          have es : ((List.range (m + 1)).map fun i => (0 : Int) + (i : Nat)) = ((List.range m).map fun i => (0 : Int) + (i : Nat)) ++ [(0 : Int) + (m : Nat)] := by
            rw [List.range_succ, List.map_append]
            rfl
          by_cases hm2 : (0 : Int) + (m : Nat) ∈ c i j
          · rw [decide_eq_true hm2]
            refine iteF ?_
            refine ⟨acc, hA7, s7, by omega, ?_⟩
            rw [es, List.filter_append, ← ea, List.filter_cons_of_neg (by rw [decide_eq_true hm2]; exact Bool.false_ne_true), List.filter_nil, List.append_nil]
          · rw [decide_eq_false hm2]
            refine iteT ?_
            refine ⟨_, rfl, _, hA7, small1000 (by rw [List.length_map]; omega), acc ++ [(0 : Int) + (m : Nat)], by rw [upd_same, List.map_append] <;> rfl, Fut.mut s7 hD, by rw [List.length_append]; show acc.length + 1 ≤ m + 1; omega, ?_⟩
            rw [es, List.filter_append, ← ea, List.filter_cons_of_pos (by rw [decide_eq_false hm2]; rfl), List.filter_nil]
        · rintro H7 ⟨gone, hA7, s7, la, ea⟩
          have eg : gone = goneOf k (c i j) := by
            rw [ea]
            unfold goneOf rangeI
            rw [show ((k : Nat) : Int).toNat = k by omega]
          have f7 := f6.trans (Fut.up f6.s s7)
          refine ⟨_, rfl, D, rfl, ⟨_, SqL.of hA7⟩, for_list (K := K) (a := D) (xs := gone.map V.int) (fun m σ H8 => ∃ (G8 : Hp) (a : Addr) (v6 : Option V), σ = [some (.ref t), some (.ref a), some (.int (i : Nat)), some (.ref xr), some (.int (j : Nat)), some (.ref xc), v6, some (.ref D)] ∧ Fut G5 H7 G8 H8 ∧ WayAt K C G8 a e wd k (done k c i j (stay k (gone.take m))))
            ⟨G5, a, _, rfl, Fut.refl f7.s, by rw [List.take_zero, stay_nil]; exact W5⟩ (fun m σ H8 _ ⟨_, _, _, _, f8, _⟩ => SqL.of (f8.h _ _ hA7)) ?_ ?_⟩
          · rintro m x σ H8 hx ⟨G8, a, v6, rfl, f8, W8⟩
            obtain ⟨z, hz, rfl⟩ : ∃ z, gone[m]? = some z ∧ x = V.int z := by
              rw [List.getElem?_map] at hx
              cases e : gone[m]? with
              | none =>
                rw [e] at hx
                cases hx
              | some z =>
                rw [e] at hx
                exact ⟨z, rfl, (Option.some.inj hx).symm⟩
            have hzg : z ∈ goneOf k (c i j) := eg ▸ List.mem_of_getElem? hz
            have hzr := range_mem (List.mem_filter.mp hzg).1
            have ht : gone.take (m + 1) = gone.take m ++ [z] := by rw [List.take_add_one, hz] <;> rfl
            have hall : ∀ x ∈ gone.take (m + 1), x ∈ goneOf k (c i j) := fun x hx => eg ▸ List.mem_of_mem_take hx
            obtain ⟨dx, tt, ha8, _⟩ := W8.ob
            have at_ij : done k c i j (stay k (gone.take m)) i j = stay k (gone.take m) := by
              unfold done
              rw [if_neg (by omega), if_pos ⟨rfl, rfl⟩]
            refine ⟨_, rfl, a, dx, _, rfl, f8.s _ _ ha8, wf_no _ _ _ _ (by decide +kernel) (by decide +kernel) (by decide +kernel) (by decide +kernel), _, rfl, _, rfl, _, rfl, _, _, _, rfl, rfl, fun p hp => ?_⟩
            have fn := Fut.new (o := .tup [V.int z]) f8.s hp
            refine ⟨_, a, p, e, wd, k, i, j, _, [z], rfl, fn.s, W8.mono fn.g, Evl.st_of upd_same, by show 1 ≤ 1000; decide, fun x hx => by rw [List.mem_singleton] at hx; omega, hie, hjw, ?_, fun b G9 H9 f9 W9 => ?_⟩
            · rw [at_ij, stay_snoc, ← ht]
              exact stay_ne hc hall
            · refine ⟨G9, b, _, rfl, (f8.trans fn).trans f9, W9.congr fun x y hx hy => ?_⟩
              unfold less put2
              by_cases h : x = i ∧ y = j
              · rw [if_pos h, at_ij, stay_snoc, ← ht, h.1, h.2]
                unfold done
                rw [if_neg (by omega), if_pos ⟨rfl, rfl⟩]
              · rw [if_neg h]
                unfold done
                by_cases h2 : x < i ∨ x = i ∧ y < j
                · rw [if_pos h2, if_pos h2]
                · rw [if_neg h2, if_neg h2, if_neg h, if_neg h]
          · rintro σ H8 ⟨G8, a, v6, rfl, f8, W8⟩
            refine ⟨G8, a, _, _, _, _, rfl, f7.trans f8, W8.congr fun x y hx hy => ?_⟩
            rw [List.length_map, List.take_length, eg, stay_gone hc]
            unfold done
            by_cases h2 : x < i ∨ x = i ∧ y < j
            · rw [if_pos h2, if_pos (by omega)]
            · rw [if_neg h2]
              by_cases h : x = i ∧ y = j
              · rw [if_pos h, if_pos (by omega), h.1, h.2]
              · rw [if_neg h, if_neg (by omega)]
                split <;> rfl
      · rintro σ H5 ⟨G5, a, v4, v5, v6, v7, rfl, f5, W5⟩
        refine ⟨G5, a, _, _, _, _, _, _, rfl, f5, W5.congr fun x y hx hy => ?_⟩
        unfold done
        by_cases h2 : x < i ∨ x = i ∧ y < ys.length
        · rw [if_pos h2, if_pos (by omega)]
        · have h3 : ¬ (x < i + 1 ∨ x = i + 1 ∧ y < 0) := by omega
          rw [if_neg h2, if_neg h3]
          split <;> split <;> rfl
    · rintro σ H3 ⟨G3, a, v2, v3, v4, v5, v6, v7, rfl, f3, W3⟩
      exact ⟨_, rfl, q a G3 H3 f3 (W3.congr fun x y hx hy => by unfold done; rw [if_pos (by omega)])⟩
end
end W2

namespace W2
open PySem PySem.Spec PyProof.Rows L2 Pg Pf Rul Tab
/-- what is known of the class for ==, !=, len, isinstance -/
structure We (P : Program) (w : World) (K : PySem.W.Frag) (mg : Str → Option Value) (base : Heap) (ke kl : Nat) (C : Addr) (spE spL : Sp) : Prop where
  cl : Cls K C
  ha : PySem.W.findIn K (.ref C) "__class__" = some (some (.builtin "object.__class__"))
  hn : PySem.W.specialIn K (.builtin "object.__class__") "__get__" = some (some (.builtin "getset_descriptor.__get__"))
  htk : PySem.W.takesIn K (.builtin "object.__class__") = some true
  hm : PySem.W.mroIn K C (.type "object") = some true
  ne : PySem.W.findIn K (.ref C) "__ne__" = some (some (.builtin "object.__ne__"))
  eq : ∃ (f : Addr) (fd : FuncData), PySem.W.findIn K (.ref C) "__eq__" = some (some (.ref f)) ∧ PySem.W.isFn K (.ref f) = true ∧ FnOk P w K mg base CX0 ke f fd ["self", "other"] spE ∧ Binds K fd ["self", "other"] []
  len : ∃ (f : Addr) (fd : FuncData), PySem.W.findIn K (.ref C) "__len__" = some (some (.ref f)) ∧ PySem.W.isFn K (.ref f) = true ∧ FnOk P w K mg base CX0 kl f fd ["self"] spL ∧ Binds K fd ["self"] []
/-- x == y, x != y by the class's own == -/
def rCmpW (K : PySem.W.Frag) (C : Addr) (sp : Sp) (neg : Bool) : R2 := fun x y H Q => ∃ a dx fs t, x = .ref a ∧ H a = some (.ins C dx fs) ∧ TyX K H y t ∧ PySem.W.notFirst K C t = true ∧ sp [x, y] H (fun v H' => ∃ c : Bool, v = .bl c ∧ Q (.bl (if neg = true then !c else c)) H') E0
section
variable {X : Cx} {ke kl j : Nat} {C : Addr} {spE spL : Sp}
theorem op_eqW (c : We X.prog X.w X.K X.mg X.base ke kl C spE spL) (hr : Room j X.A) (hk : ke ≤ j) : OpR X (compareOp .Eq) (rCmpW X.K C spE false) := by
  intro pins s σ H x y v u Q I rx ry h
  obtain ⟨a, dx, fs, t, rfl, ha, ty, hn, q⟩ := h
  cases (show v = Value.ref a from rx)
  obtain ⟨f, fd, hs, hf, F, b⟩ := c.eq
  obtain ⟨mA, O, _⟩ := ins_get I.hok ha
  obtain ⟨od, J, _⟩ := O.look
  obtain ⟨m, hF⟩ := I.fr
  obtain ⟨Pk, Z, p, _⟩ := kit_of I ry ty
  refine PySem.W.cmp_K (op := .Eq) (tb := t) (hr.mono hk).units0 hF I.ok.mod.kin J (Z.ty _ _ I.kIn p) hn hs hf ?_
  have z := run_fn (us := [.ref a, u]) (vs := [.ref a, y]) (Q := fun v H' => ∃ c : Bool, v = .bl c ∧ Q (.bl c) H') F (hr.mono hk) b .nil pass0 I (.cons rfl (.cons ry .nil)) q
  refine wpAny_mono z (fun w s' hz => ?_) fun _ _ x => x
  obtain ⟨z', H', I', rz, c, ec, qz⟩ := hz
  subst ec
  cases (show w = Value.bool c from rz)
  exact ⟨.bl c, H', I', rfl, qz⟩
theorem op_neW (c : We X.prog X.w X.K X.mg X.base ke kl C spE spL) (hr : Room j X.A) (hk : ke + 1 ≤ j) : OpR X (compareOp .NotEq) (rCmpW X.K C spE true) := by
  intro pins s σ H x y v u Q I rx ry h
  obtain ⟨a, dx, fs, t, rfl, ha, ty, hn, q⟩ := h
  cases (show v = Value.ref a from rx)
  obtain ⟨f, fd, hs, hf, F, b⟩ := c.eq
  obtain ⟨mA, O, _⟩ := ins_get I.hok ha
  obtain ⟨od, J, _⟩ := O.look
  obtain ⟨m, hF⟩ := I.fr
  obtain ⟨Pk, Z, p, _⟩ := kit_of I ry ty
  have hr1 : Room (ke + 1) X.A := hr.mono hk
  refine PySem.W.r2_ne (tb := t) (by have := hr1.units; omega) hF I.ok.mod.kin J (Z.ty _ _ I.kIn p) hn c.ne (J.type.andThen (PySem.W.looks_mroIn I.kIn c.hm)) hs hf ?_
  have b2 := b s [.ref a, u] I.kIn rfl
  refine wpAny_call (codeAny_mono (F.run X.A.in1 X.stack s H ⟨[.ref a, u], []⟩ [.ref a, u] [.ref a, y] (fun v H' => ∃ c : Bool, v = .bl c ∧ Q (.bl (!c)) H') E0 hr1.in1 I.env0.in1 b2 (.cons rfl (.cons ry .nil)) q) fun r s' hq => ?_)
  cases r with
  | error e => exact False.elim hq
  | ok fl =>
    cases fl with
    | ret w =>
      obtain ⟨z', H', I', rz, c, ec, qz⟩ := I.after hq
      subst ec
      cases (show w = Value.bool c from rz)
      exact ⟨c, rfl, .bl (!c), H', I', rfl, qz⟩
    | next => exact False.elim hq
    | brk => exact False.elim hq
    | cont => exact False.elim hq
/-- len of an object of the class -/
theorem call_lenW (c : We X.prog X.w X.K X.mg X.base ke kl C spE spL) (hr : Room j X.A) (hk : kl + 1 ≤ j) :
    CallR X (.builtin "len") (fun xs H Q => ∃ a dx fs, xs = [.ref a] ∧ H a = some (.ins C dx fs) ∧ spL [.ref a] H (fun v H' => ∃ n : Int, v = .int n ∧ 0 ≤ n ∧ n < 2 ^ 63 ∧ Q (.int n) H') E0) := by
  intro pins s σ H xs us Q I r h
  obtain ⟨a, dx, fs, rfl, ha, q⟩ := h
  obtain ⟨u, rfl, ru⟩ := vals1 r
  cases (show u = Value.ref a from ru)
  obtain ⟨f, fd, hs, hf, F, b⟩ := c.len
  obtain ⟨mA, O, _⟩ := ins_get I.hok ha
  obtain ⟨od, J, _⟩ := O.look
  obtain ⟨m, hF⟩ := I.fr
  have hr1 : Room (kl + 1) X.A := hr.mono hk
  have b2 := b s [.ref a] I.kIn rfl
  refine PySem.W.len_K hF I.ok.mod.kin J hs hf ?_
  refine wpAny_call (codeAny_mono (F.run X.A.in1 X.stack s H ⟨[.ref a], []⟩ [.ref a] [.ref a] (fun v H' => ∃ n : Int, v = .int n ∧ 0 ≤ n ∧ n < 2 ^ 63 ∧ Q (.int n) H') E0 hr1.in1 I.env0.in1 b2 (.cons rfl .nil) q) fun r s' hq => ?_)
  cases r with
  | error e => exact False.elim hq
  | ok fl =>
    cases fl with
    | ret w =>
      obtain ⟨z', H', I', rz, n, ec, n0, n1, qz⟩ := I.after hq
      subst ec
      obtain ⟨t, et⟩ := (show ∃ t, w = Value.int n t from rz)
      cases et
      exact ⟨⟨n0, n1⟩, .int n, H', I'.tok _, ⟨_, rfl⟩, qz⟩
    | next => exact False.elim hq
    | brk => exact False.elim hq
    | cont => exact False.elim hq
end
end W2

namespace W2
open PySem PySem.Spec PyProof.Rows L2 Pg Pf Rul Tab
theorem eqv_ints : ∀ ns ms : List Int, PyData.eqvAll (ns.map PyData.int) (ms.map PyData.int) = decide (ns = ms)
  | [], [] => rfl
  | [], m :: ms => rfl
  | n :: ns, [] => rfl
  | n :: ns, m :: ms => by
    show ((n == m) && PyData.eqvAll (ns.map PyData.int) (ms.map PyData.int)) = _
    rw [eqv_ints ns ms, Bool.eq_iff_iff]
    simp
theorem eqv_map {α : Type} [DecidableEq α] (f : α → PyData) (h : ∀ x y, PyData.eqv (f x) (f y) = decide (x = y)) : ∀ xs ys : List α, PyData.eqvAll (xs.map f) (ys.map f) = decide (xs = ys)
  | [], [] => rfl
  | [], y :: ys => rfl
  | x :: xs, [] => rfl
  | x :: xs, y :: ys => by
    show (PyData.eqv (f x) (f y) && PyData.eqvAll (xs.map f) (ys.map f)) = _
    rw [h, eqv_map f h xs ys, Bool.eq_iff_iff]
    simp
theorem eqv_cell (a b : List Int) : PyData.eqv (cellD a) (cellD b) = decide (a = b) := eqv_ints a b
theorem eqv_rowT (a b : List (List Int)) : PyData.eqv (rowT a) (rowT b) = decide (a = b) := eqv_map cellD eqv_cell a b
theorem eqv_tabT (a b : List (List (List Int))) : PyData.eqv (tabT a) (tabT b) = decide (a = b) := eqv_map rowT eqv_rowT a b
abbrev s_eq : Stmt := inClass (top 11) 10
abbrev N_eq : List Str := ["self", "other"]
theorem sc_eq : FnScope N_eq ["self", "other"] (defScope s_eq) := ⟨rfl, rfl, rfl, by decide +kernel, rfl, by decide +kernel, by decide +kernel⟩
abbrev s_len : Stmt := inClass (top 11) 9
abbrev N_len : List Str := ["self"]
theorem sc_len : FnScope N_len ["self"] (defScope s_len) := ⟨rfl, rfl, rfl, by decide +kernel, rfl, by decide +kernel, by decide +kernel⟩
/-- the own == -/
def spEqW (K : PySem.W.Frag) (C : Addr) : Sp := fun vs H Q _ => ∃ (G : Hp) (a : Addr) (y : V) (r l k : Nat) (c : Nat → Nat → List Int), vs = [.ref a, y] ∧ Same G H ∧ WayAt K C G a r l k c ∧
  ((∃ (b : Addr) (r' l' k' : Nat) (c' : Nat → Nat → List Int), y = .ref b ∧ WayAt K C G b r' l' k' c' ∧ Q (.bl (decide (k = k') && decide (tabF r l c = tabF r' l' c'))) H) ∨
   (∃ t, TyX K H y t ∧ PySem.W.kitOne K t (.ref C) = some false ∧ Q (.bl false) H))
def spLenW (K : PySem.W.Frag) (C : Addr) : Sp := fun vs H Q _ => ∃ (G : Hp) (a : Addr) (r l k : Nat) (c : Nat → Nat → List Int), vs = [.ref a] ∧ Same G H ∧ WayAt K C G a r l k c ∧ ∀ H', Same H H' → Q (.int ((r * l : Nat) : Int)) H'
section
variable {P : Program} {w : World} {K : PySem.W.Frag} {mg : Str → Option Value} {base : Heap} {f C : Addr} {fd : FuncData}
theorem kit_self : PySem.W.kitOne K (.ref C) (.ref C) = some true := by
  unfold PySem.W.kitOne
  rw [if_pos (by simp)]
theorem ok_eqW (Bw' : Bw mg) (T : Wt K mg C) (hA : PySem.W.findIn K (.ref C) "__class__" = some (some (.builtin "object.__class__"))) (hN : PySem.W.specialIn K (.builtin "object.__class__") "__get__" = some (some (.builtin "getset_descriptor.__get__")))
    (hT : PySem.W.takesIn K (.builtin "object.__class__") = some true) (hM : PySem.W.mroIn K C (.type "object") = some true) (F : Fun K "__eq__" "Way.__eq__" s_eq f fd) : FnOk P w K mg base CX0 2 f fd ["self", "other"] (spEqW K C) := by
  refine F.ok sc_eq (fun vs H Q E h => ?_) (fun cdv A outer s H vs Q E hr h => ?_)
  · obtain ⟨G, a, y, r, l, k, c, rfl, _⟩ := h
    rfl
  · obtain ⟨G, a, y, r, l, k, c, rfl, sG, W, q⟩ := h
    refine ⟨_, (pss_one (ps_ret (pe_and (pe_callB call_isi (by rfl) Bw'.isinstance (by decide +kernel) (pa_cons (pv 1) (pa_cons (pe_glob (v := .ref C) (by rfl) T.mgC rfl) pa_nil))) (pe_and (pe_cmpR op_eq (pe_fld (pv 0) rfl) (pe_fld (pv 1) rfl) (nomark _)) (pe_one (pe_cmpR (op_eqD hr.units) (pe_fld (pv 0) rfl) (pe_fld (pv 1) rfl) (nomark _))))))), ?_⟩
    obtain ⟨dx, t0, ha, hd⟩ := W.ob
    rcases q with ⟨b, r', l', k', c', rfl, W', q⟩ | ⟨t, ty, ho, q⟩
    · obtain ⟨dx', t0', hb, hd'⟩ := W'.ob
      refine ⟨_, rfl, _, .ref C, .ref C, .ref C, true, rfl, .own C, .base (.ins (sG _ _ hb) T.cl hA hN hT hM), kit_self, _, rfl, ?_⟩
      refine iteT ?_
      refine ⟨_, rfl, a, C, dx, _, _, rfl, sG _ _ ha, T.cl, T.nP, wf_k _ _ _ _, _, rfl, b, C, dx', _, _, rfl, sG _ _ hb, T.cl, T.nP, wf_k _ _ _ _, rfl, _, rfl, ?_⟩
      rw [dec_int]
      by_cases e : k = k'
      · rw [decide_eq_true e] at q ⊢
        refine iteT ?_
        have f1 := fine_tabT W.ok (by have := W.k2; omega) W.r2 W.l2
        have f2 := fine_tabT W'.ok (by have := W'.k2; omega) W'.r2 W'.l2
        refine ⟨_, rfl, a, C, dx, _, _, rfl, sG _ _ ha, T.cl, T.nT, wf_t _ _ _ _, _, rfl, b, C, dx', _, _, rfl, sG _ _ hb, T.cl, T.nT, wf_t _ _ _ _, _, _, Dp.mono sG _ _ hd, Dp.mono sG _ _ hd', f1.shaped (by decide), f2.shaped (by decide), ?_⟩
        rw [eqv_tabT]
        rw [Bool.true_and] at q
        exact q
      · rw [decide_eq_false e] at q ⊢
        refine iteF ?_
        exact q
    · refine ⟨_, rfl, _, .ref C, t, .ref C, false, rfl, .own C, ty, ho, _, rfl, ?_⟩
      refine iteF ?_
      exact q
theorem ok_lenW (B : Bt mg) (cP : CalO P w K mg base 4 "pairs_of" (spPairs K C)) (F : Fun K "__len__" "Way.__len__" s_len f fd) : FnOk P w K mg base CX0 5 f fd ["self"] (spLenW K C) := by
  refine F.ok sc_len (fun vs H Q E h => ?_) (fun cdv A outer s H vs Q E hr h => ?_)
  · obtain ⟨G, a, r, l, k, c, rfl, _⟩ := h
    rfl
  · obtain ⟨G, a, r, l, k, c, rfl, sG, W, q⟩ := h
    refine ⟨_, (pss_one (ps_ret (pe_callB call_len_seq (by rfl) B.len PySem.boot_len (pa_cons (pe_cO cP hr (by decide) rfl (pa_cons (pv 0) pa_nil)) pa_nil)))), ?_⟩
    refine ⟨_, rfl, G, a, r, l, k, c, rfl, sG, W, fun p G' H' f' d' => ?_⟩
    obtain ⟨vp, hL, hP⟩ : ∃ vp, SqL K G' p vp ∧ DpAll K G' vp ((pairsL r l).map pairD) := by
      cases d' with
      | lst a b => exact ⟨_, a, b⟩
    refine ⟨p, vp, rfl, .inl (Same.seq f'.s hL), ?_⟩
    rw [DpAll.len hP, List.length_map, pairs_len]
    exact q H' f'.h
/-- allowed, called with both names, left first -/
structure Alk (P : Program) (w : World) (K : PySem.W.Frag) (mg : Str → Option Value) (base : Heap) (k : Nat) (C : Addr) (sp : Sp) : Prop where
  ex : ∃ (f : Addr) (fd : FuncData), Cls K C ∧ Meth K C "allowed" f ∧ FnOk P w K mg base CX0 k f fd ["self", "right", "left"] sp ∧ ∀ (s : Shared) (u w1 w2 : Value), BindsTo s fd ⟨[u], [("left", w1), ("right", w2)]⟩ [("self", u), ("right", w2), ("left", w1)]
theorem alk_of {sp : Sp} (cl : Cls K C) (me : Meth K C "allowed" f) (F : Fun K "allowed" "Way.allowed" s_allowed f fd) (O : FnOk P w K mg base CX0 4 f fd ["self", "right", "left"] sp) : Alk P w K mg base 4 C sp := by
  refine ⟨f, fd, cl, me, O, fun s u w1 w2 => ?_⟩
  obtain ⟨oc, od, kV, doc, pm, an, cdv, ct, osl, rfl, lk, hcd⟩ := F.ex
  exact .of_eq rfl
end
def tAlk (C : Addr) (sp : Sp) (ta t1 t2 : TE) : TE := fun σ H Q => ta σ H fun x H1 => ∃ a dx fs, x = .ref a ∧ H1 a = some (.ins C dx fs) ∧ fs.lookup ("allowed" : Str) = none ∧
  tCons t1 (tCons t2 tNil) σ H1 fun zs H3 => ∃ y1 y2, zs = [y1, y2] ∧ sp [.ref a, y2, y1] H3 Q E0
section
variable {X : Cx} {k j : Nat} {C : Addr} {sp : Sp} {pos apos q2 q3 : Pos} {o e2 e3 : Expr} {ta t2 t3 : TE}
theorem pe_allowedK {pl : Sem Bool} (c : Alk X.prog X.w X.K X.mg X.base k C sp) (hr : Room j X.A) (hk : k ≤ j) (he : PE X o ta) (h2 : PE X e2 t2) (h3 : PE X e3 t3)
    (hpl : ((backTo pos (starEach [] X.env)).any (·.1) || (backToKw pos (keywordEach [⟨some "left", e2, q2⟩, ⟨some "right", e3, q3⟩] X.env)).any (·.1.isNone)) = false := by rfl)
    (hall : (backToKw pos (keywordEach [⟨some "left", e2, q2⟩, ⟨some "right", e3, q3⟩] X.env)).all (·.1.isSome) = true := by rfl)
    (ht : eval (.Call (.Attribute o "allowed" apos) [] [⟨some "left", e2, q2⟩, ⟨some "right", e3, q3⟩] pos) X.env = (do
      let ov ← eval o X.env
      standAt apos.atName
      let (f, first) ← holding [ov] (getMethod ov "allowed" pl)
      callWith pos f first (backTo pos (starEach [] X.env)) (backToKw pos (keywordEach [⟨some "left", e2, q2⟩, ⟨some "right", e3, q3⟩] X.env))) := by rfl) :
    PE X (.Call (.Attribute o "allowed" apos) [] [⟨some "left", e2, q2⟩, ⟨some "right", e3, q3⟩] pos) (tAlk C sp ta t2 t3) := by
  obtain ⟨f, fd, cl, me, F, hb⟩ := c.ex
  refine ⟨fun pins s σ H Q I h => ?_⟩
  refine PySem.W.methodCall_KW (pl := pl) (thn (he.run pins s σ H _ I h) fun u s1 ⟨x, H1, I1, rx, a, dx, fs, ex, ea, l, q⟩ => ?_) ht
  subst ex
  obtain rfl : u = Value.ref a := rx
  refine getmeth_ok I1 ea cl me l ?_
  refine PySem.W.callWith_KW0 (first := [.ref a]) (h₀ := X.base) I1.ok.mod.kin me.kp hall ?_ hpl
  refine thn ((pk_cons h2 (pk_cons h3 pk_nil)).run pos pins s1 σ H1 _ I1 q) fun ws s3 ⟨zs, H3, I3, rz, y1, y2, ez, q3⟩ => ⟨I3.kIn, ?_⟩
  subst ez
  obtain ⟨w1, w2, rfl, r1, r2⟩ := vals2 rz
  show wpAny (model X.prog X.w) X.A (call (.ref f) [.ref a] [("left", w1), ("right", w2)]) (EP X pins σ Q) X.xe s3
  refine wpAny_call (codeAny_mono (F.run X.A X.stack s3 H3 ⟨[.ref a], [("left", w1), ("right", w2)]⟩ [.ref a, w2, w1] [.ref a, y2, y1] Q E0 (hr.mono hk) I3.env0 (hb s3 _ _ _) (.cons rfl (.cons r2 (.cons r1 .nil))) q3) fun r s' hq => ?_)
  cases r with
  | error e => exact False.elim hq
  | ok fl =>
    cases fl with
    | ret u => exact I3.after hq
    | next => exact False.elim hq
    | brk => exact False.elim hq
    | cont => exact False.elim hq
end
end W2

set_option maxHeartbeats 1000000
/-! Pp0: readings that compute: data, worlds, answers. -/
namespace Pp
open PySem PySem.Spec PyProof.Rows L2 Pg Pf LamX
/-- what is fixed through a law: the tables of code objects, the own classes by numbers -/
structure Zn where
  T : List (Addr × Str)
  cl : Nat → Addr
/-- the attributes of the own classes, in the order in which they are set: Way, Plan, Crossing, LoggedCrossing -/
def nm : Nat → List Str
  | 0 => ["_rights", "_lefts", "_places", "_table"]
  | 1 => ["_way", "_cells"]
  | 2 => ["_way", "_right_spots", "_left_spots", "_cells"]
  | 3 => ["_way", "_right_spots", "_left_spots", "_cells", "_log"]
  | _ => []
/-- data: what a value stands for -/
inductive D where
  | non | bl (b : Bool) | int (i : Int) | str (x : Str) | tup (ds : List D) | lst (ds : List D)
  /-- an instance of an own class, whole -/
  | obj (c : Nat) (ds : List D)
  /-- any object, by its address alone -/
  | adr (a : Addr)
  /-- {} -/
  | emp
  /-- a list that is only read -/
  | rls (ds : List D)
mutual
inductive Dv (K : PySem.W.Frag) (Z : Zn) (G : Hp) : V → D → Prop
  | non : Dv K Z G .non .non
  | bl (b : Bool) : Dv K Z G (.bl b) (.bl b)
  | int (i : Int) : Dv K Z G (.int i) (.int i)
  | str (x : Str) : Dv K Z G (.str x) (.str x)
  | tup {a : Addr} {vs : List V} {ds : List D} (h : SqT K G a vs) (hs : DvA K Z G vs ds) : Dv K Z G (.ref a) (.tup ds)
  | lst {a : Addr} {vs : List V} {ds : List D} (h : G a = some (.lst vs)) (hs : DvA K Z G vs ds) : Dv K Z G (.ref a) (.lst ds)
  | obj {a : Addr} {c : Nat} {dx : Addr} {fs : List (Str × V)} {ds : List D} (h : G a = some (.ins (Z.cl c) dx fs)) (hn : fs.map Prod.fst = nm c) (hs : DvA K Z G (fs.map Prod.snd) ds) : Dv K Z G (.ref a) (.obj c ds)
  | adr (a : Addr) : Dv K Z G (.ref a) (.adr a)
  | emp {a : Addr} (h : G a = some (.dK [])) : Dv K Z G (.ref a) .emp
  | rls {a : Addr} {vs : List V} {ds : List D} (h : SqL K G a vs) (hs : DvA K Z G vs ds) : Dv K Z G (.ref a) (.rls ds)
inductive DvA (K : PySem.W.Frag) (Z : Zn) (G : Hp) : List V → List D → Prop
  | nil : DvA K Z G [] []
  | cons {v : V} {d : D} {vs : List V} {ds : List D} (h : Dv K Z G v d) (hs : DvA K Z G vs ds) : DvA K Z G (v :: vs) (d :: ds)
end
mutual
theorem Dv.mono {K : PySem.W.Frag} {Z : Zn} {H H' : Hp} (e : Same H H') : ∀ (d : D) (v : V), Dv K Z H v d → Dv K Z H' v d
  | .non, _, h => by cases h; exact .non
  | .bl _, _, h => by cases h; exact .bl _
  | .int _, _, h => by cases h; exact .int _
  | .str _, _, h => by cases h; exact .str _
  | .lst ds, _, h => by
    cases h with
    | lst a b => exact .lst (e _ _ a) (DvA.mono e ds _ b)
  | .tup ds, _, h => by
    cases h with
    | tup a b => exact .tup (Evl.ex_t e a) (DvA.mono e ds _ b)
  | .obj _ ds, _, h => by
    cases h with
    | obj a n b => exact .obj (e _ _ a) n (DvA.mono e ds _ b)
  | .adr _, _, h => by cases h; exact .adr _
  | .emp, _, h => by
    cases h with
    | emp a => exact .emp (e _ _ a)
  | .rls ds, _, h => by
    cases h with
    | rls a b => exact .rls (Evl.ex_l e a) (DvA.mono e ds _ b)
theorem DvA.mono {K : PySem.W.Frag} {Z : Zn} {H H' : Hp} (e : Same H H') : ∀ (ds : List D) (vs : List V), DvA K Z H vs ds → DvA K Z H' vs ds
  | [], _, h => by cases h; exact .nil
  | d :: ds, _, h => by
    cases h with
    | cons a b => exact .cons (Dv.mono e d _ a) (DvA.mono e ds _ b)
end
section
variable {K : PySem.W.Frag} {Z : Zn} {G : Hp}
theorem DvA.len : ∀ {vs : List V} {ds : List D}, DvA K Z G vs ds → vs.length = ds.length
  | _, _, .nil => rfl
  | _, _, .cons _ b => by rw [List.length_cons, List.length_cons, DvA.len b]
theorem DvA.at : ∀ {vs : List V} {ds : List D} {i : Nat} {d : D}, DvA K Z G vs ds → ds[i]? = some d → ∃ v, vs[i]? = some v ∧ Dv K Z G v d
  | _, _, 0, d, .cons a b, h => ⟨_, rfl, by
    have e := Option.some.inj h
    rw [← e]
    exact a⟩
  | _, _, i + 1, d, .cons a b, h => DvA.at (i := i) b h
  | _, _, i, d, .nil, h => by simp at h
theorem DvA.at' : ∀ {vs : List V} {ds : List D} {i : Nat} {v : V}, DvA K Z G vs ds → vs[i]? = some v → ∃ d, ds[i]? = some d ∧ Dv K Z G v d
  | _, _, 0, d, .cons a b, h => ⟨_, rfl, by
    have e := Option.some.inj h
    rw [← e]
    exact a⟩
  | _, _, i + 1, d, .cons a b, h => DvA.at' (i := i) b h
  | _, _, i, d, .nil, h => by simp at h
theorem DvA.app : ∀ {vs ws : List V} {ds es : List D}, DvA K Z G vs ds → DvA K Z G ws es → DvA K Z G (vs ++ ws) (ds ++ es)
  | _, _, _, _, .nil, h => h
  | _, _, _, _, .cons a b, h => .cons a (DvA.app b h)
theorem DvA.snoc {vs : List V} {ds : List D} {v : V} {d : D} (h : DvA K Z G vs ds) (k : Dv K Z G v d) : DvA K Z G (vs ++ [v]) (ds ++ [d]) := h.app (.cons k .nil)
theorem DvA.rev : ∀ {vs : List V} {ds : List D}, DvA K Z G vs ds → DvA K Z G vs.reverse ds.reverse
  | _, _, .nil => .nil
  | _, _, .cons a b => by
    rw [List.reverse_cons, List.reverse_cons]
    exact b.rev.snoc a
theorem DvA.take : ∀ {vs : List V} {ds : List D} (n : Nat), DvA K Z G vs ds → DvA K Z G (vs.take n) (ds.take n)
  | _, _, 0, _ => by rw [List.take_zero, List.take_zero]; exact .nil
  | _, _, n + 1, .nil => .nil
  | _, _, n + 1, .cons a b => .cons a (b.take n)
theorem DvA.drop : ∀ {vs : List V} {ds : List D} (n : Nat), DvA K Z G vs ds → DvA K Z G (vs.drop n) (ds.drop n)
  | _, _, 0, h => h
  | _, _, n + 1, .nil => .nil
  | _, _, n + 1, .cons a b => b.drop n
theorem DvA.set : ∀ {vs : List V} {ds : List D} {v : V} {d : D} (n : Nat), DvA K Z G vs ds → Dv K Z G v d → DvA K Z G (vs.set n v) (ds.set n d)
  | _, _, _, _, 0, .nil, _ => .nil
  | _, _, _, _, _ + 1, .nil, _ => .nil
  | _, _, _, _, 0, .cons a b, h => .cons h b
  | _, _, _, _, n + 1, .cons a b, h => .cons a (b.set n h)
theorem DvA.ints : ∀ (ns : List Int), DvA K Z G (ns.map V.int) (ns.map D.int)
  | [] => .nil
  | n :: ns => .cons (.int n) (DvA.ints ns)
end
/-- the state from which numbers are drawn -/
structure MS where
  m : Addr
  c : Addr
  q : Addr
  /-- so many have been drawn at most -/
  b : Nat
abbrev S := Option MS
def adr : S → Option (Addr × Addr × Addr)
  | none => none
  | some k => some (k.m, k.c, k.q)
def inS (s : S) (p : Addr) : Prop := match adr s with
  | none => False
  | some (m, c, q) => p = m ∨ p = c ∨ p = q
theorem inS_of {s s' : S} (e : adr s' = adr s) (p : Addr) : inS s' p = inS s p := by unfold inS; rw [e]
/-- G knows no table of code objects -/
def NoT (G : Hp) : Prop := ∀ b ps, G b ≠ some (.tbl ps)
def MR (V H : Hp) : S → Prop
  | none => True
  | some k => (∃ n : Int, H k.m = some (.dK [(kc, .ref k.c), (kg, .ref k.q), (ks, .int n)]) ∧ 0 ≤ n ∧ n ≤ k.b) ∧ (∃ cs : List Int, H k.c = some (.lst (cs.map L2.V.int)) ∧ cs.length = 64) ∧ (∃ gs : List Int, H k.q = some (.lst (gs.map L2.V.int)) ∧ gs.length ≤ 63) ∧ V k.m = none ∧ V k.c = none ∧ V k.q = none ∧ k.c ≠ k.q
structure Wd (T : List (Addr × Str)) (V H : Hp) (s : S) : Prop where
  sv : Same V H
  nt : NoT V
  tb : Tabs T H
  mr : MR V H s
theorem MR.inV {V H : Hp} {s : S} (h : MR V H s) {p : Addr} (e : inS s p) : V p = none := by
  cases s with
  | none => exact e.elim
  | some k =>
    obtain ⟨_, _, _, a, b, c, _⟩ := h
    rcases e with rfl | rfl | rfl
    · exact a
    · exact b
    · exact c
theorem MR.inH {V H : Hp} {s : S} (h : MR V H s) {p : Addr} (e : inS s p) : H p ≠ none := by
  cases s with
  | none => exact e.elim
  | some k =>
    obtain ⟨⟨_, a, _⟩, ⟨_, b, _⟩, ⟨_, c, _⟩, _⟩ := h
    rcases e with rfl | rfl | rfl
    · rw [a]; simp
    · rw [b]; simp
    · rw [c]; simp
/-- free, or a table of code objects -/
def Fre (H : Hp) (p : Addr) : Prop := H p = none ∨ ∃ ps, H p = some (.tbl ps)
theorem fre_ne {H : Hp} {a p : Addr} {o : HO} (e : H a = some o) (n : ∀ ps, o ≠ .tbl ps) (f : Fre H p) : a ≠ p := fun z => by
  subst z
  rcases f with f | ⟨ps, f⟩
  · rw [e] at f
    cases f
  · rw [e] at f
    exact n ps (Option.some.inj f)
/-- from (V, H) and s to (V', H') and s': nothing that stood has changed but the state's own objects and tables; what V' knows anew is new -/
structure Nx (s s' : S) (V H V' H' : Hp) : Prop where
  a : adr s' = adr s
  g : Same V V'
  h : ∀ p o, H p = some o → (∀ ps, o ≠ .tbl ps) → ¬ inS s p → H' p = some o
  n : ∀ p, V' p ≠ none → V p ≠ none ∨ Fre H p
  k : ∀ p, Fre H' p → Fre H p
section
variable {T : List (Addr × Str)} {s s' s'' : S} {V H V' H' V'' H'' : Hp}
theorem Nx.refl (s : S) (V H : Hp) : Nx s s V H V H := ⟨rfl, Same.refl _, fun _ _ e _ _ => e, fun _ e => .inl e, fun _ e => e⟩
theorem Nx.trans (x : Nx s s' V H V' H') (y : Nx s' s'' V' H' V'' H'') : Nx s s'' V H V'' H'' :=
  ⟨y.a.trans x.a, x.g.trans y.g, fun p o e n i => y.h p o (x.h p o e n i) n (by rw [inS_of x.a]; exact i), fun p e => (y.n p e).elim (x.n p) fun z => .inr (x.k p z), fun p e => x.k p (y.k p e)⟩
/-- what V does not know of the old heap, V' does not -/
theorem Nx.not (x : Nx s s' V H V' H') {p : Addr} {u : HO} (e : V p = none) (h : H p = some u) (nt : ∀ ps, u ≠ .tbl ps) : V' p = none := by
  cases z : V' p with
  | none => rfl
  | some o => exact ((x.n p (by rw [z]; simp)).elim (fun y => absurd e y) fun y => absurd rfl (fre_ne h nt y))
/-- a new object, known from now on -/
theorem Nx.new {p : Addr} {o : HO} (w : Wd T V H s) (h : H p = none) : Nx s s V H (upd V p o) (upd H p o) :=
  ⟨rfl, Same.new (w.sv.free h), fun b u e _ _ => by rw [upd_ne (ne_of_none e h)]; exact e, fun b e => by
    by_cases q : b = p
    · exact .inr (.inl (q ▸ h))
    · rw [upd_ne q] at e
      exact .inl e, fun b e => by
    by_cases q : b = p
    · exact .inl (q ▸ h)
    · unfold Fre at e
      rw [upd_ne q] at e
      exact e⟩
/-- a new object, not known for good -/
theorem Nx.up {p : Addr} {o : HO} (h : H p = none) : Nx s s V H V (upd H p o) :=
  ⟨rfl, Same.refl _, fun b u e _ _ => by rw [upd_ne (ne_of_none e h)]; exact e, fun b e => .inl e, fun b e => by
    by_cases q : b = p
    · exact .inl (q ▸ h)
    · unfold Fre at e
      rw [upd_ne q] at e
      exact e⟩
/-- the new object at p changes -/
theorem Nx.mut {p : Addr} {o : HO} (x : Nx s s' V H V' H') (h : Fre H p) : Nx s s' V H V' (upd H' p o) :=
  ⟨x.a, x.g, fun b u e n i => by rw [upd_ne (fre_ne e n h)]; exact x.h b u e n i, x.n, fun b e => by
    by_cases q : b = p
    · exact q ▸ h
    · unfold Fre at e
      rw [upd_ne q] at e
      exact x.k b e⟩
/-- .. is known from now on -/
theorem Nx.freeze {p : Addr} {o : HO} (x : Nx s s' V H V' H') (h : Fre H p) (v : V' p = none) : Nx s s' V H (upd V' p o) H' :=
  ⟨x.a, x.g.trans (Same.new v), x.h, fun b e => by
    by_cases q : b = p
    · exact .inr (q ▸ h)
    · rw [upd_ne q] at e
      exact x.n b e, x.k⟩
theorem NoT.put {G : Hp} {p : Addr} {o : HO} (h : NoT G) (ho : ∀ ps, o ≠ .tbl ps) : NoT (upd G p o) := fun b ps e => by
  by_cases z : b = p
  · rw [z, upd_same] at e
    exact ho ps (Option.some.inj e)
  · rw [upd_ne z] at e
    exact h b ps e
theorem Wd.new {p : Addr} {o : HO} (w : Wd T V H s) (h : H p = none) (ho : ∀ ps, o ≠ .tbl ps) : Wd T (upd V p o) (upd H p o) s := by
  refine ⟨fun b u e => ?_, w.nt.put ho, w.tb.ext (Same.new h), ?_⟩
  · by_cases q : b = p
    · rw [q, upd_same] at e ⊢
      exact e
    · rw [upd_ne q] at e ⊢
      exact w.sv _ _ e
  · cases s with
    | none => exact trivial
    | some k =>
      obtain ⟨⟨n, a1, b1⟩, ⟨cs, a2, b2⟩, ⟨gs, a3, b3⟩, a4, a5, a6, a7⟩ := w.mr
      have n1 := ne_of_none a1 h
      have n2 := ne_of_none a2 h
      have n3 := ne_of_none a3 h
      exact ⟨⟨n, by rw [upd_ne n1]; exact a1, b1⟩, ⟨cs, by rw [upd_ne n2]; exact a2, b2⟩, ⟨gs, by rw [upd_ne n3]; exact a3, b3⟩, by rw [upd_ne n1]; exact a4, by rw [upd_ne n2]; exact a5, by rw [upd_ne n3]; exact a6, a7⟩
theorem Wd.up {p : Addr} {o : HO} (w : Wd T V H s) (h : H p = none) : Wd T V (upd H p o) s := by
  refine ⟨w.sv.trans (Same.new h), w.nt, w.tb.ext (Same.new h), ?_⟩
  cases s with
  | none => exact trivial
  | some k =>
    obtain ⟨⟨n, a1, b1⟩, ⟨cs, a2, b2⟩, ⟨gs, a3, b3⟩, a4⟩ := w.mr
    exact ⟨⟨n, by rw [upd_ne (ne_of_none a1 h)]; exact a1, b1⟩, ⟨cs, by rw [upd_ne (ne_of_none a2 h)]; exact a2, b2⟩, ⟨gs, by rw [upd_ne (ne_of_none a3 h)]; exact a3, b3⟩, a4⟩
theorem tabs_put {T : List (Addr × Str)} {H : Hp} {L : Addr} {u o : HO} (t : Tabs T H) (h : H L = some u) (hu : ∀ ps, u ≠ .tbl ps) (hx : ∀ φ, u ≠ .ext φ) : Tabs T (upd H L o) := fun p hp => by
  obtain ⟨ps, h1, h2, h3⟩ := t p hp
  refine ⟨ps, by rw [upd_ne (ne_of h1 h (by intro z; exact hu _ z.symm))]; exact h1, h2, fun pos cv hc => ?_⟩
  obtain ⟨c, e1, e2⟩ := h3 pos cv hc
  exact ⟨c, e1, by rw [upd_ne (ne_of e2 h (by intro z; exact hx _ z.symm))]; exact e2⟩
/-- an object that stands, not known for good, no table, changes -/
theorem Wd.mut {p : Addr} {u o : HO} (w : Wd T V H s) (e : H p = some u) (v : V p = none) (i : ¬ inS s p) (hu : ∀ ps, u ≠ .tbl ps) (hx : ∀ φ, u ≠ .ext φ) : Wd T V (upd H p o) s := by
  refine ⟨fun b q z => by rw [upd_ne (ne_of_none z v)]; exact w.sv _ _ z, w.nt, tabs_put w.tb e hu hx, ?_⟩
  cases s with
  | none => exact trivial
  | some k =>
    obtain ⟨⟨n, a1, b1⟩, ⟨cs, a2, b2⟩, ⟨gs, a3, b3⟩, a4⟩ := w.mr
    have n1 : k.m ≠ p := fun z => i (.inl z.symm)
    have n2 : k.c ≠ p := fun z => i (.inr (.inl z.symm))
    have n3 : k.q ≠ p := fun z => i (.inr (.inr z.symm))
    exact ⟨⟨n, by rw [upd_ne n1]; exact a1, b1⟩, ⟨cs, by rw [upd_ne n2]; exact a2, b2⟩, ⟨gs, by rw [upd_ne n3]; exact a3, b3⟩, a4⟩
theorem Wd.freeze {p : Addr} {o : HO} (w : Wd T V H s) (e : H p = some o) (ho : ∀ ps, o ≠ .tbl ps) (i : ¬ inS s p) : Wd T (upd V p o) H s := by
  refine ⟨fun b q z => ?_, w.nt.put ho, w.tb, ?_⟩
  · by_cases y : b = p
    · rw [y, upd_same] at z
      rw [y, e]
      exact z
    · rw [upd_ne y] at z
      exact w.sv _ _ z
  · cases s with
    | none => exact trivial
    | some k =>
      obtain ⟨a1, a2, a3, a4, a5, a6, a7⟩ := w.mr
      have n1 : k.m ≠ p := fun z => i (.inl z.symm)
      have n2 : k.c ≠ p := fun z => i (.inr (.inl z.symm))
      have n3 : k.q ≠ p := fun z => i (.inr (.inr z.symm))
      exact ⟨a1, a2, a3, by rw [upd_ne n1]; exact a4, by rw [upd_ne n2]; exact a5, by rw [upd_ne n3]; exact a6, a7⟩
end
/-- an exception: its class, its fields -/
structure Exc where
  c : Nat
  ns : List Str
  ds : List D
inductive R (α : Type) where
  | ok (a : α) (s : S)
  | ex (e : Exc) (s : S)
  | un
  /-- any number from 0 to below top -/
  | dr (top : Int) (k : Int → R α)
  /-- any data and state with P -/
  | an (P : D → S → Prop) (k : D → S → R α)
def R.bind {α β : Type} (r : R α) (k : α → S → R β) : R β := match r with
  | .ok a s => k a s
  | .ex e s => .ex e s
  | .un => .un
  | .dr t f => .dr t fun i => (f i).bind k
  | .an P f => .an P fun d s => (f d s).bind k
def ExR (K : PySem.W.Frag) (Z : Zn) (G : Hp) (cls : Value) (dd : Option Addr) (e : Exc) : Prop := cls = .ref (Z.cl e.c) ∧ ∃ (d : Addr) (fs : List (Str × V)), dd = some d ∧ G d = some (.xd fs) ∧ fs.map Prod.fst = e.ns ∧ DvA K Z G (fs.map Prod.snd) e.ds
/-- what an answer asks of what follows -/
def Ans {α β : Type} (K : PySem.W.Frag) (Z : Zn) (E : XK) (Rl : Hp → β → α → Prop) (r : R α) (s : S) (V H : Hp) (Q : β → Hp → Prop) : Prop := match r with
  | .ok d s' => ∀ v V' H', Nx s s' V H V' H' → Wd Z.T V' H' s' → Rl V' v d → Q v H'
  | .ex e s' => ∀ cls dd V' H', Nx s s' V H V' H' → Wd Z.T V' H' s' → ExR K Z V' cls dd e → E cls dd H'
  | .un => False
  | .dr t k => ∀ i, 0 ≤ i → i < t → Ans K Z E Rl (k i) s V H Q
  | .an P k => ∀ d s1, P d s1 → Ans K Z E Rl (k d s1) s V H Q
/-- an object of one's own: a list, an instance -/
inductive OD where
  | ls (ds : List D) | is (c : Nat) (ns : List Str) (ds : List D)
def OD.d : OD → Option D
  | .ls ds => some (.lst ds)
  | .is c ns ds => if ns = nm c then some (.obj c ds) else none
inductive HD (K : PySem.W.Frag) (Z : Zn) (G : Hp) : HO → OD → Prop
  | ls {vs : List V} {ds : List D} (h : DvA K Z G vs ds) : HD K Z G (.lst vs) (.ls ds)
  | is {c : Nat} {dx : Addr} {fs : List (Str × V)} {ns : List Str} {ds : List D} (hn : fs.map Prod.fst = ns) (h : DvA K Z G (fs.map Prod.snd) ds) : HD K Z G (.ins (Z.cl c) dx fs) (.is c ns ds)
section
variable {K : PySem.W.Frag} {Z : Zn} {G G' : Hp} {u : HO} {o : OD} {a : Addr}
theorem HD.mono (e : Same G G') (h : HD K Z G u o) : HD K Z G' u o := by
  cases h with
  | ls h => exact .ls (DvA.mono e _ _ h)
  | is n h => exact .is n (DvA.mono e _ _ h)
theorem HD.nt (h : HD K Z G u o) : ∀ ps, u ≠ .tbl ps := fun ps z => by
  subst z
  cases h
theorem HD.ne (h : HD K Z G u o) : ∀ φ, u ≠ .ext φ := fun ps z => by
  subst z
  cases h
theorem HD.dv {d : D} (h : HD K Z G u o) (e : G a = some u) (hd : o.d = some d) : Dv K Z G (.ref a) d := by
  cases h with
  | ls h =>
    cases hd
    exact .lst e h
  | @is c dx fs ns ds n h =>
    replace hd : (if ns = nm c then some (D.obj c ds) else none) = some d := hd
    split at hd
    case isTrue y =>
      cases hd
      exact .obj e (n.trans y) h
    case isFalse => cases hd
end
/-- a slot: nothing is known; a value known for good; an object of one's own -/
inductive Sl where
  | no | fz (d : D) | ow (o : OD)
abbrev Slots := List Sl
structure Rep (K : PySem.W.Frag) (Z : Zn) (V H : Hp) (σ : L2.St) (ρ : Slots) (s : S) : Prop where
  fz : ∀ (i : Nat) (d : D), ρ[i]? = some (.fz d) → ∃ v, σ[i]? = some (some v) ∧ Dv K Z V v d
  ow : ∀ (i : Nat) (o : OD), ρ[i]? = some (.ow o) → ∃ a u, σ[i]? = some (some (.ref a)) ∧ H a = some u ∧ HD K Z V u o ∧ V a = none ∧ ¬ inS s a
  ln : σ.length = ρ.length
section
variable {α β γ δ : Type} {K : PySem.W.Frag} {Z : Zn} {E : XK} {Rl : Hp → β → α → Prop} {s s' : S} {V H V' H' : Hp} {σ : L2.St} {ρ : Slots}
theorem Ans.later {r : R α} {Q : β → Hp → Prop} (x : Nx s s' V H V' H') (h : Ans K Z E Rl r s V H Q) : Ans K Z E Rl r s' V' H' Q := by
  induction r with
  | ok d s2 => exact fun v V2 H2 n w q => h v V2 H2 (x.trans n) w q
  | ex e s2 => exact fun cls dd V2 H2 n w q => h cls dd V2 H2 (x.trans n) w q
  | un => exact h
  | dr t k ih => exact fun i h0 h1 => ih i (h i h0 h1)
  | an P k ih => exact fun d s2 hp => ih d s2 (h d s2 hp)
theorem Ans.mono {r : R α} {Q Q' : β → Hp → Prop} (h : Ans K Z E Rl r s V H Q) (k : ∀ v H', Q v H' → Q' v H') : Ans K Z E Rl r s V H Q' := by
  induction r with
  | ok d s2 => exact fun v V2 H2 n w q => k _ _ (h v V2 H2 n w q)
  | ex e s2 => exact h
  | un => exact h
  | dr t k ih => exact fun i h0 h1 => ih i (h i h0 h1)
  | an P k ih => exact fun d s2 hp => ih d s2 (h d s2 hp)
theorem Ans.pure {Q : β → Hp → Prop} {v : β} {d : α} (w : Wd Z.T V H s) (q : Rl V v d) (h : Ans K Z E Rl (.ok d s) s V H Q) : Q v H := h v V H (Nx.refl _ _ _) w q
theorem Rep.later (p : Rep K Z V H σ ρ s) (x : Nx s s' V H V' H') : Rep K Z V' H' σ ρ s' := by
  refine ⟨fun i d e => ?_, fun i ds e => ?_, p.ln⟩
  · obtain ⟨v, h1, h2⟩ := p.fz i d e
    exact ⟨v, h1, Dv.mono x.g _ _ h2⟩
  · obtain ⟨a, vs, h1, h2, h3, h4, h5⟩ := p.ow i ds e
    exact ⟨a, vs, h1, x.h a _ h2 h3.nt h5, h3.mono x.g, x.not h4 h2 h3.nt, by rw [inS_of x.a]; exact h5⟩
/-- first r, then k: what the first asks -/
theorem Ans.bind {Rl2 : Hp → δ → γ → Prop} {r : R α} {k : α → S → R γ} {Q : δ → Hp → Prop} {Q1 : β → Hp → Prop} (h : Ans K Z E Rl2 (r.bind k) s V H Q)
    (c : ∀ d s' v V' H', Nx s s' V H V' H' → Wd Z.T V' H' s' → Rl V' v d → Ans K Z E Rl2 (k d s') s' V' H' Q → Q1 v H') : Ans K Z E Rl r s V H Q1 := by
  induction r with
  | ok d s2 => exact fun v V2 H2 n w q => c d s2 v V2 H2 n w q (Ans.later n h)
  | ex e s2 => exact h
  | un => exact h
  | dr t k ih => exact fun i h0 h1 => ih i (h i h0 h1)
  | an P k ih => exact fun d s2 hp => ih d s2 (h d s2 hp)
end
/-- t computes f: an expression, arguments, a test -/
def Cmp (K : PySem.W.Frag) (Z : Zn) (E : XK) (t : TE) (f : Slots → S → R D) : Prop := ∀ V H σ ρ s Q, Wd Z.T V H s → Rep K Z V H σ ρ s → Ans K Z E (Dv K Z) (f ρ s) s V H Q → t σ H Q
def CmpA (K : PySem.W.Frag) (Z : Zn) (E : XK) (t : TA) (f : Slots → S → R (List D)) : Prop := ∀ V H σ ρ s Q, Wd Z.T V H s → Rep K Z V H σ ρ s → Ans K Z E (DvA K Z) (f ρ s) s V H Q → t σ H Q
def CmpT (K : PySem.W.Frag) (Z : Zn) (E : XK) (t : TT) (f : Slots → S → R Bool) : Prop := ∀ V H σ ρ s Q, Wd Z.T V H s → Rep K Z V H σ ρ s → Ans K Z E (fun _ b c => b = c) (f ρ s) s V H Q → t σ H Q
/-- an operation on two values, on one, a call on values -/
def Cmp2 (K : PySem.W.Frag) (Z : Zn) (E : XK) (r : R2) (op : D → D → S → R D) : Prop := ∀ V H s x y dx dy Q, Wd Z.T V H s → Dv K Z V x dx → Dv K Z V y dy → Ans K Z E (Dv K Z) (op dx dy s) s V H Q → r x y H Q
def Cmp1 (K : PySem.W.Frag) (Z : Zn) (E : XK) (r : V → Hp → VK → Prop) (op : D → S → R D) : Prop := ∀ V H s x dx Q, Wd Z.T V H s → Dv K Z V x dx → Ans K Z E (Dv K Z) (op dx s) s V H Q → r x H Q
def CmpC (K : PySem.W.Frag) (Z : Zn) (E : XK) (r : List V → Hp → VK → Prop) (op : List D → S → R D) : Prop := ∀ V H s xs ds Q, Wd Z.T V H s → DvA K Z V xs ds → Ans K Z E (Dv K Z) (op ds s) s V H Q → r xs H Q
end Pp

set_option maxHeartbeats 1000000
/-! Pp1: expressions that compute. -/
namespace Pp
open PySem PySem.Spec PyProof.Rows L2 Pg Pf LamX
def fits (n : Nat) : Bool := decide (n ≤ 100000)
theorem fits_le {n : Nat} (h : fits n = true) : n ≤ sizeLine := Nat.le_trans (of_decide_eq_true h) (by decide)
theorem fits_lt {n : Nat} (h : fits n = true) : n < sizeLine := Nat.lt_of_le_of_lt (of_decide_eq_true h) (by decide)
/-- e computes f by the reading t -/
structure PP (X : Cx) (Z : Zn) (E : XK) (e : Expr) (t : TE) (f : Slots → S → R D) : Prop where
  pe : PE X e t
  cm : Cmp X.K Z E t f
structure PPA (X : Cx) (Z : Zn) (E : XK) (es : List Expr) (t : TA) (f : Slots → S → R (List D)) : Prop where
  pe : PA X es t
  cm : CmpA X.K Z E t f
structure PPT (X : Cx) (Z : Zn) (E : XK) (e : Expr) (t : TT) (f : Slots → S → R Bool) : Prop where
  pe : PT X e t
  cm : CmpT X.K Z E t f
structure PPW (X : Cx) (Z : Zn) (E : XK) (e : Expr) (t : TT) (f : Slots → S → R Bool) : Prop where
  pe : PW X e t
  cm : CmpT X.K Z E t f
/-! ### what is computed -/
def vr (i : Nat) (ρ : Slots) (s : S) : R D := match ρ[i]? with
  | some (.fz d) => .ok d s
  | _ => .un
def kst (d : D) (_ : Slots) (s : S) : R D := .ok d s
def b2 (op : D → D → S → R D) (f g : Slots → S → R D) (ρ : Slots) (s : S) : R D := (f ρ s).bind fun x s => (g ρ s).bind fun y s => op x y s
def b1 (op : D → S → R D) (f : Slots → S → R D) (ρ : Slots) (s : S) : R D := (f ρ s).bind fun x s => op x s
def bC (op : List D → S → R D) (f : Slots → S → R (List D)) (ρ : Slots) (s : S) : R D := (f ρ s).bind fun x s => op x s
def bl' (x : D) (s : S) : R Bool := match x with
  | .bl b => .ok b s
  | _ => .un
def tst (f : Slots → S → R D) (ρ : Slots) (s : S) : R Bool := (f ρ s).bind bl'
def bnd (f g : Slots → S → R Bool) (ρ : Slots) (s : S) : R Bool := (f ρ s).bind fun b s => if b = true then g ρ s else .ok false s
def bor (f g : Slots → S → R Bool) (ρ : Slots) (s : S) : R Bool := (f ρ s).bind fun b s => if b = true then .ok true s else g ρ s
def bnt (f : Slots → S → R Bool) (ρ : Slots) (s : S) : R Bool := (f ρ s).bind fun b s => .ok (!b) s
def dnd (f g : Slots → S → R D) (ρ : Slots) (s : S) : R D := (f ρ s).bind fun x s => (bl' x s).bind fun b s => if b = true then g ρ s else .ok (.bl false) s
def dor (f g : Slots → S → R D) (ρ : Slots) (s : S) : R D := (f ρ s).bind fun x s => (bl' x s).bind fun b s => if b = true then .ok (.bl true) s else g ρ s
def iff (c : Slots → S → R Bool) (f g : Slots → S → R D) (ρ : Slots) (s : S) : R D := (c ρ s).bind fun b s => if b = true then f ρ s else g ρ s
def nilA (_ : Slots) (s : S) : R (List D) := .ok [] s
def cnsA (f : Slots → S → R D) (g : Slots → S → R (List D)) (ρ : Slots) (s : S) : R (List D) := (f ρ s).bind fun x s => (g ρ s).bind fun xs s => .ok (x :: xs) s
def tupF (ds : List D) (s : S) : R D := if fits ds.length = true then .ok (.tup ds) s else .un
def lstF (ds : List D) (s : S) : R D := if fits ds.length = true then .ok (.lst ds) s else .un
section
variable {K : PySem.W.Frag} {Z : Zn} {E : XK} {ta tb tc : TE} {u1 u2 : TT} {ua : TA} {f g h : Slots → S → R D} {p q : Slots → S → R Bool} {fa : Slots → S → R (List D)} {r r' : R2} {op op' : D → D → S → R D}
theorem c_var (i : Nat) : Cmp K Z E (tVar i) (vr i) := by
  intro V H σ ρ s Q w p a
  unfold vr at a
  split at a
  · rename_i d e
    obtain ⟨v, h1, h2⟩ := p.fz i d e
    exact ⟨v, h1, Ans.pure w h2 a⟩
  · exact a.elim
theorem c_c {v : V} {d : D} (h : ∀ G, Dv K Z G v d) : Cmp K Z E (tC v) (kst d) := fun V H σ ρ s Q w p a => Ans.pure w (h V) a
theorem c_op (ho : Cmp2 K Z E r op) (ha : Cmp K Z E ta f) (hb : Cmp K Z E tb g) : Cmp K Z E (tOp r ta tb) (b2 op f g) := fun V H σ ρ s Q w p a =>
  ha V H σ ρ s _ w p (Ans.bind a fun d s1 v V1 H1 n1 w1 r1 a1 => hb V1 H1 σ ρ s1 _ w1 (p.later n1) (Ans.bind a1 fun d2 s2 v2 V2 H2 n2 w2 r2 a2 => ho V2 H2 s2 v v2 d d2 Q w2 (Dv.mono n2.g _ _ r1) r2 a2))
theorem c_un {r : V → Hp → VK → Prop} {op : D → S → R D} (ho : Cmp1 K Z E r op) (ha : Cmp K Z E ta f) : Cmp K Z E (tUn r ta) (b1 op f) := fun V H σ ρ s Q w p a =>
  ha V H σ ρ s _ w p (Ans.bind a fun d s1 v V1 H1 n1 w1 r1 a1 => ho V1 H1 s1 v d Q w1 r1 a1)
theorem c_call {r : List V → Hp → VK → Prop} {op : List D → S → R D} (ho : CmpC K Z E r op) (ha : CmpA K Z E ua fa) : Cmp K Z E (tCB r ua) (bC op fa) := fun V H σ ρ s Q w p a =>
  ha V H σ ρ s _ w p (Ans.bind a fun d s1 v V1 H1 n1 w1 r1 a1 => ho V1 H1 s1 v d Q w1 r1 a1)
/-- a chain of two comparisons -/
def chn (op op' : D → D → S → R D) (f g h : Slots → S → R D) (ρ : Slots) (s : S) : R D := (f ρ s).bind fun x s => (g ρ s).bind fun y s => (op x y s).bind fun z s => (bl' z s).bind fun b s => if b = true then (h ρ s).bind fun u s => op' y u s else .ok (.bl false) s
theorem c_bl {v : V} {V H : Hp} {d : D} {s : S} {β γ : Type} {Rl : Hp → β → γ → Prop} {k : Bool → S → R γ} {Q : β → Hp → Prop} (rd : Dv K Z V v d) (a : Ans K Z E Rl ((bl' d s).bind k) s V H Q) : ∃ b, v = .bl b ∧ Ans K Z E Rl (k b s) s V H Q := by
  cases rd with
  | bl b => exact ⟨b, rfl, a⟩
  | _ => exact a.elim
theorem c_chain (ho : Cmp2 K Z E r op) (ho' : Cmp2 K Z E r' op') (ha : Cmp K Z E ta f) (hb : Cmp K Z E tb g) (hc : Cmp K Z E tc h) : Cmp K Z E (tChain r r' ta tb tc) (chn op op' f g h) := fun V H σ ρ s Q w p a =>
  ha V H σ ρ s _ w p (Ans.bind a fun d s1 v V1 H1 n1 w1 r1 a1 => hb V1 H1 σ ρ s1 _ w1 (p.later n1) (Ans.bind a1 fun d2 s2 v2 V2 H2 n2 w2 r2 a2 => ho V2 H2 s2 v v2 d d2 _ w2 (Dv.mono n2.g _ _ r1) r2
    (Ans.bind a2 fun d3 s3 v3 V3 H3 n3 w3 r3 a3 => by
      obtain ⟨b, e, a4⟩ := c_bl r3 a3
      refine ⟨b, e, ?_⟩
      by_cases hb : b = true
      · rw [if_pos hb] at a4 ⊢
        exact hc V3 H3 σ ρ s3 _ w3 (((p.later n1).later n2).later n3) (Ans.bind a4 fun d4 s4 v4 V4 H4 n4 w4 r4 a5 => ho' V4 H4 s4 v2 v4 d2 d4 Q w4 (Dv.mono n4.g _ _ (Dv.mono n3.g _ _ r2)) r4 a5)
      · rw [if_neg hb] at a4 ⊢
        exact Ans.pure w3 (.bl false) a4)))
/-- a value that is a bool, as a test -/
theorem c_tB (ha : Cmp K Z E ta f) : CmpT K Z E (tB ta) (tst f) := fun V H σ ρ s Q w p a =>
  ha V H σ ρ s _ w p (Ans.bind a fun d s1 v V1 H1 n1 w1 r1 a1 => by
    cases r1 with
    | bl b => exact ⟨b, rfl, Ans.pure w1 rfl a1⟩
    | _ => exact a1.elim)
theorem c_tT (ha : Cmp K Z E ta f) : CmpT K Z E (tTest ta) (tst f) := c_tB ha
theorem c_and (ha : CmpT K Z E u1 p) (hb : CmpT K Z E u2 q) : CmpT K Z E (tAnd u1 u2) (bnd p q) := fun V H σ ρ s Q w pp a =>
  ha V H σ ρ s _ w pp (Ans.bind a fun d s1 v V1 H1 n1 w1 r1 a1 => by
    subst r1
    by_cases hb' : v = true
    · rw [if_pos hb'] at a1 ⊢
      exact hb V1 H1 σ ρ s1 _ w1 (pp.later n1) a1
    · rw [if_neg hb'] at a1 ⊢
      exact Ans.pure w1 rfl a1)
theorem c_or (ha : CmpT K Z E u1 p) (hb : CmpT K Z E u2 q) : CmpT K Z E (tOr u1 u2) (bor p q) := fun V H σ ρ s Q w pp a =>
  ha V H σ ρ s _ w pp (Ans.bind a fun d s1 v V1 H1 n1 w1 r1 a1 => by
    subst r1
    by_cases hb' : v = true
    · rw [if_pos hb'] at a1 ⊢
      exact Ans.pure w1 rfl a1
    · rw [if_neg hb'] at a1 ⊢
      exact hb V1 H1 σ ρ s1 _ w1 (pp.later n1) a1)
theorem c_not (ha : CmpT K Z E u1 p) : CmpT K Z E (tNot u1) (bnt p) := fun V H σ ρ s Q w pp a =>
  ha V H σ ρ s _ w pp (Ans.bind a fun d s1 v V1 H1 n1 w1 r1 a1 => by
    subst r1
    exact Ans.pure w1 rfl a1)
theorem c_andV (ha : Cmp K Z E ta f) (hb : Cmp K Z E tb g) : Cmp K Z E (tAndV ta tb) (dnd f g) := fun V H σ ρ s Q w p a =>
  ha V H σ ρ s _ w p (Ans.bind a fun d s1 v V1 H1 n1 w1 r1 a1 => by
    obtain ⟨b, e, a4⟩ := c_bl r1 a1
    refine ⟨b, e, ?_⟩
    by_cases hb' : b = true
    · rw [if_pos hb'] at a4 ⊢
      exact hb V1 H1 σ ρ s1 _ w1 (p.later n1) a4
    · rw [if_neg hb'] at a4 ⊢
      exact Ans.pure w1 (.bl false) a4)
theorem c_orV (ha : Cmp K Z E ta f) (hb : Cmp K Z E tb g) : Cmp K Z E (tOrV ta tb) (dor f g) := fun V H σ ρ s Q w p a =>
  ha V H σ ρ s _ w p (Ans.bind a fun d s1 v V1 H1 n1 w1 r1 a1 => by
    obtain ⟨b, e, a4⟩ := c_bl r1 a1
    refine ⟨b, e, ?_⟩
    by_cases hb' : b = true
    · rw [if_pos hb'] at a4 ⊢
      exact Ans.pure w1 (.bl true) a4
    · rw [if_neg hb'] at a4 ⊢
      exact hb V1 H1 σ ρ s1 _ w1 (p.later n1) a4)
def ntV (f : Slots → S → R D) (ρ : Slots) (s : S) : R D := (f ρ s).bind fun x s => (bl' x s).bind fun b s => .ok (.bl (!b)) s
theorem c_notV (ha : Cmp K Z E ta f) : Cmp K Z E (tNotV ta) (ntV f) := fun V H σ ρ s Q w p a =>
  ha V H σ ρ s _ w p (Ans.bind a fun d s1 v V1 H1 n1 w1 r1 a1 => by
    obtain ⟨b, e, a4⟩ := c_bl r1 a1
    exact ⟨b, e, Ans.pure w1 (.bl _) a4⟩)
theorem c_if (hc : CmpT K Z E u1 p) (ha : Cmp K Z E ta f) (hb : Cmp K Z E tb g) : Cmp K Z E (tIf u1 ta tb) (iff p f g) := fun V H σ ρ s Q w pp a =>
  hc V H σ ρ s _ w pp (Ans.bind a fun d s1 v V1 H1 n1 w1 r1 a1 => by
    subst r1
    by_cases hb' : v = true
    · rw [if_pos hb'] at a1 ⊢
      exact ha V1 H1 σ ρ s1 _ w1 (pp.later n1) a1
    · rw [if_neg hb'] at a1 ⊢
      exact hb V1 H1 σ ρ s1 _ w1 (pp.later n1) a1)
theorem c_nil : CmpA K Z E tNil nilA := fun V H σ ρ s Q w p a => Ans.pure w .nil a
theorem c_cons (ha : Cmp K Z E ta f) (hb : CmpA K Z E ua fa) : CmpA K Z E (tCons ta ua) (cnsA f fa) := fun V H σ ρ s Q w p a =>
  ha V H σ ρ s _ w p (Ans.bind a fun d s1 v V1 H1 n1 w1 r1 a1 => hb V1 H1 σ ρ s1 _ w1 (p.later n1) (Ans.bind a1 fun d2 s2 v2 V2 H2 n2 w2 r2 a2 => Ans.pure w2 (.cons (Dv.mono n2.g _ _ r1) r2) a2))
/-- a new tuple, a new list -/
theorem new_tup {V H : Hp} {s : S} {vs : List L2.V} {ds : List D} {Q : VK} (w : Wd Z.T V H s) (h : DvA K Z V vs ds) (a : Ans K Z E (Dv K Z) (.ok (.tup ds) s) s V H Q) : ∀ p, H p = none → Q (.ref p) (upd H p (.tup vs)) := fun p hp =>
  a (.ref p) (upd V p (.tup vs)) _ (Nx.new w hp) (w.new hp fun _ z => by cases z) (.tup (.inl (.inl upd_same)) (DvA.mono (Same.new (w.sv.free hp)) _ _ h))
theorem new_lst {V H : Hp} {s : S} {vs : List L2.V} {ds : List D} {Q : VK} (w : Wd Z.T V H s) (h : DvA K Z V vs ds) (a : Ans K Z E (Dv K Z) (.ok (.lst ds) s) s V H Q) : ∀ p, H p = none → Q (.ref p) (upd H p (.lst vs)) := fun p hp =>
  a (.ref p) (upd V p (.lst vs)) _ (Nx.new w hp) (w.new hp fun _ z => by cases z) (.lst upd_same (DvA.mono (Same.new (w.sv.free hp)) _ _ h))
theorem c_tup (ha : CmpA K Z E ua fa) : Cmp K Z E (tTup ua) (bC tupF fa) := fun V H σ ρ s Q w p a =>
  ha V H σ ρ s _ w p (Ans.bind a fun d s1 v V1 H1 n1 w1 r1 a1 => by
    unfold tupF at a1
    split at a1
    · rename_i e
      exact ⟨by rw [r1.len]; exact fits_le e, new_tup w1 r1 a1⟩
    · exact a1.elim)
theorem c_lst (ha : CmpA K Z E ua fa) : Cmp K Z E (tLst ua) (bC lstF fa) := fun V H σ ρ s Q w p a =>
  ha V H σ ρ s _ w p (Ans.bind a fun d s1 v V1 H1 n1 w1 r1 a1 => by
    unfold lstF at a1
    split at a1
    · rename_i e
      exact ⟨by rw [r1.len]; exact fits_le e, new_lst w1 r1 a1⟩
    · exact a1.elim)
end
/-! ### operations on data -/
def intF (k : Int → Int → D) (x y : D) (s : S) : R D := match x, y with
  | .int i, .int j => .ok (k i j) s
  | _, _ => .un
section
variable {K : PySem.W.Frag} {Z : Zn} {E : XK}
theorem c2_int {g : Int → Int → V} {k : Int → Int → D} (hk : ∀ i j G, Dv K Z G (g i j) (k i j)) : Cmp2 K Z E (rI0 g) (intF k) := fun V H s x y dx dy Q w rx ry a => by
  cases rx with
  | int i =>
    cases ry with
    | int j => exact ⟨i, j, rfl, rfl, Ans.pure w (hk i j V) a⟩
    | _ => exact a.elim
  | _ => exact a.elim
theorem c2_lt : Cmp2 K Z E (rI0 fun i j => .bl (decide (i < j))) (intF fun i j => .bl (decide (i < j))) := c2_int fun _ _ _ => .bl _
theorem c2_le : Cmp2 K Z E (rI0 fun i j => .bl (decide (i ≤ j))) (intF fun i j => .bl (decide (i ≤ j))) := c2_int fun _ _ _ => .bl _
theorem c2_gt : Cmp2 K Z E (rI0 fun i j => .bl (decide (j < i))) (intF fun i j => .bl (decide (j < i))) := c2_int fun _ _ _ => .bl _
theorem c2_ge : Cmp2 K Z E (rI0 fun i j => .bl (decide (j ≤ i))) (intF fun i j => .bl (decide (j ≤ i))) := c2_int fun _ _ _ => .bl _
theorem c2_sub : Cmp2 K Z E (rI0 fun i j => .int (i - j)) (intF fun i j => .int (i - j)) := c2_int fun _ _ _ => .int _
/-- + : ints, tuples, lists -/
def rPlus (K : PySem.W.Frag) : R2 := fun x y H Q => (rI0 fun i j => .int (i + j)) x y H Q ∨ (rCatA K x y H Q ∨ rCat x y H Q)
theorem op_plus {X : Cx} : OpR X (binaryOp .Add) (rPlus X.K) := op_add.or (op_catA.or op_cat)
def plusF (x y : D) (s : S) : R D := match x, y with
  | .int i, .int j => .ok (.int (i + j)) s
  | .tup xs, .tup ys => if fits (xs.length + ys.length) = true then .ok (.tup (xs ++ ys)) s else .un
  | .lst xs, .lst ys => if fits (xs.length + ys.length) = true then .ok (.lst (xs ++ ys)) s else .un
  | _, _ => .un
theorem c2_plus : Cmp2 K Z E (rPlus K) plusF := fun V H s x y dx dy Q w rx ry a => by
  cases rx with
  | int i =>
    cases ry with
    | int j => exact .inl ⟨i, j, rfl, rfl, Ans.pure w (.int _) a⟩
    | _ => exact a.elim
  | @tup ax vx xs hx rx =>
    cases ry with
    | @tup ay vy ys hy ry =>
      change Ans K Z E (Dv K Z) (if _ then _ else _) s V H Q at a
      split at a
      case isTrue e =>
        have lx := rx.len
        have ly := ry.len
        refine .inr (.inl ⟨ax, ay, vx, vy, rfl, rfl, Evl.ex_t w.sv hx, Evl.ex_t w.sv hy, by rw [lx, ly]; exact fits_le e, fun z => ?_, fun _ z => ?_, fun _ _ => new_tup w (rx.app ry) a⟩)
        · subst z
          cases rx
          exact Ans.pure w (.tup hy ry) a
        · subst z
          cases ry
          rw [List.append_nil] at a
          exact Ans.pure w (.tup hx rx) a
      case isFalse => exact a.elim
    | _ => exact a.elim
  | @lst ax vx xs hx rx =>
    cases ry with
    | @lst ay vy ys hy ry =>
      change Ans K Z E (Dv K Z) (if _ then _ else _) s V H Q at a
      split at a
      case isTrue e => exact .inr (.inr ⟨ax, ay, vx, vy, rfl, rfl, w.sv _ _ hx, w.sv _ _ hy, by rw [rx.len, ry.len]; exact fits_le e, new_lst w (rx.app ry) a⟩)
      case isFalse => exact a.elim
    | _ => exact a.elim
  | _ => exact a.elim
/-- * : a small int times an int -/
def mulF (x y : D) (s : S) : R D := match x, y with
  | .int i, .int j => if (decide (-(2 ^ 64) < i) && decide (i < 2 ^ 64)) || (decide (-(2 ^ 64) < j) && decide (j < 2 ^ 64)) then .ok (.int (i * j)) s else .un
  | _, _ => .un
theorem c2_mul : Cmp2 K Z E (rI CMul fun i j => .int (i * j)) mulF := fun V H s x y dx dy Q w rx ry a => by
  cases rx with
  | int i =>
    cases ry with
    | int j =>
      change Ans K Z E (Dv K Z) (if _ then _ else _) s V H Q at a
      split at a
      case isTrue e =>
        refine ⟨i, j, rfl, rfl, ?_, Ans.pure w (.int _) a⟩
        rcases Bool.or_eq_true_iff.mp e with e | e
        · have := Bool.and_eq_true_iff.mp e
          exact .inl ⟨of_decide_eq_true this.1, of_decide_eq_true this.2⟩
        · have := Bool.and_eq_true_iff.mp e
          exact .inr ⟨of_decide_eq_true this.1, of_decide_eq_true this.2⟩
      case isFalse => exact a.elim
    | _ => exact a.elim
  | _ => exact a.elim
def modF (x y : D) (s : S) : R D := match x, y with
  | .int i, .int j => if 0 < j then .ok (.int (i % j)) s else .un
  | _, _ => .un
theorem c2_mod : Cmp2 K Z E (rI (fun _ j => 0 < j) fun i j => .int (i % j)) modF := fun V H s x y dx dy Q w rx ry a => by
  cases rx with
  | int i =>
    cases ry with
    | int j =>
      change Ans K Z E (Dv K Z) (if _ then _ else _) s V H Q at a
      split at a
      case isTrue e => exact ⟨i, j, rfl, rfl, e, Ans.pure w (.int _) a⟩
      case isFalse => exact a.elim
    | _ => exact a.elim
  | _ => exact a.elim
def isN : D → Bool
  | .non => true
  | _ => false
theorem isN_of {G : Hp} {v : V} {d : D} (h : Dv K Z G v d) : decide (v = .non) = isN d := by
  cases h <;> rfl
def isNF (x y : D) (s : S) : R D := match y with
  | .non => .ok (.bl (isN x)) s
  | _ => .un
def notNF (x y : D) (s : S) : R D := match y with
  | .non => .ok (.bl (!isN x)) s
  | _ => .un
theorem c2_isN : Cmp2 K Z E (fun x y H Q => y = .non ∧ Q (.bl (decide (x = .non))) H) isNF := fun V H s x y dx dy Q w rx ry a => by
  cases ry with
  | non => exact ⟨rfl, by rw [isN_of rx]; exact Ans.pure w (.bl _) a⟩
  | _ => exact a.elim
theorem c2_notN : Cmp2 K Z E (fun x y H Q => y = .non ∧ Q (.bl (!decide (x = .non))) H) notNF := fun V H s x y dx dy Q w rx ry a => by
  cases ry with
  | non => exact ⟨rfl, by rw [isN_of rx]; exact Ans.pure w (.bl _) a⟩
  | _ => exact a.elim
/-- an item of a tuple, of a list -/
def ixF (x y : D) (s : S) : R D := match x, y with
  | .tup ds, .int i => match atI ds i with
    | some d => .ok d s
    | none => .un
  | .lst ds, .int i => match atI ds i with
    | some d => .ok d s
    | none => .un
  | .rls ds, .int i => match atI ds i with
    | some d => .ok d s
    | none => .un
  | _, _ => .un
theorem DvA.atI {G : Hp} {vs : List V} {ds : List D} {i : Int} {d : D} (h : DvA K Z G vs ds) (e : L2.atI ds i = some d) : ∃ v, L2.atI vs i = some v ∧ Dv K Z G v d := by
  unfold L2.atI at e ⊢
  rw [h.len]
  cases n : ixN ds.length i with
  | none =>
    rw [n] at e
    cases e
  | some j =>
    rw [n] at e
    exact h.at (i := j) e
theorem c2_ix : Cmp2 K Z E (rIx K) ixF := fun V H s x y dx dy Q w rx ry a => by
  cases rx with
  | @tup ax vx xs hx rx =>
    cases ry with
    | int i =>
      replace a : Ans K Z E (Dv K Z) (match L2.atI xs i with | some d => R.ok d s | none => .un) s V H Q := a
      cases e : L2.atI xs i with
      | some d =>
        rw [e] at a
        obtain ⟨v, h1, h2⟩ := DvA.atI rx e
        exact .inr (.inl ⟨ax, vx, i, v, rfl, rfl, Evl.ex_t w.sv hx, h1, Ans.pure w h2 a⟩)
      | none =>
        rw [e] at a
        exact a.elim
    | _ => exact a.elim
  | @lst ax vx xs hx rx =>
    cases ry with
    | int i =>
      replace a : Ans K Z E (Dv K Z) (match L2.atI xs i with | some d => R.ok d s | none => .un) s V H Q := a
      cases e : L2.atI xs i with
      | some d =>
        rw [e] at a
        obtain ⟨v, h1, h2⟩ := DvA.atI rx e
        exact .inl ⟨ax, vx, i, v, rfl, rfl, SqL.of (w.sv _ _ hx), h1, Ans.pure w h2 a⟩
      | none =>
        rw [e] at a
        exact a.elim
    | _ => exact a.elim
  | @rls ax vx xs hx rx =>
    cases ry with
    | int i =>
      replace a : Ans K Z E (Dv K Z) (match L2.atI xs i with | some d => R.ok d s | none => .un) s V H Q := a
      cases e : L2.atI xs i with
      | some d =>
        rw [e] at a
        obtain ⟨v, h1, h2⟩ := DvA.atI rx e
        exact .inl ⟨ax, vx, i, v, rfl, rfl, Evl.ex_l w.sv hx, h1, Ans.pure w h2 a⟩
      | none =>
        rw [e] at a
        exact a.elim
    | _ => exact a.elim
  | _ => exact a.elim
/-- len of a tuple, of a list -/
def lenF (xs : List D) (s : S) : R D := match xs with
  | [.tup ds] => .ok (.int ds.length) s
  | [.lst ds] => .ok (.int ds.length) s
  | [.rls ds] => .ok (.int ds.length) s
  | _ => .un
theorem cC_len : CmpC K Z E (fun xs H Q => ∃ p ys, xs = [.ref p] ∧ (SqL K H p ys ∨ SqT K H p ys) ∧ Q (.int ys.length) H) lenF := fun V H s xs ds Q w r a => by
  match ds, r, a with
  | [.tup es], .cons (.tup h hs) .nil, a => exact ⟨_, _, rfl, .inr (Evl.ex_t w.sv h), by rw [hs.len]; exact Ans.pure w (.int _) a⟩
  | [.lst es], .cons (.lst h hs) .nil, a => exact ⟨_, _, rfl, .inl ((SqL.of (w.sv _ _ h))), by rw [hs.len]; exact Ans.pure w (.int _) a⟩
  | [.rls es], .cons (.rls h hs) .nil, a => exact ⟨_, _, rfl, .inl (Evl.ex_l w.sv h), by rw [hs.len]; exact Ans.pure w (.int _) a⟩
  | [], _, a => exact a.elim
  | .non :: _, _, a | .bl _ :: _, _, a | .int _ :: _, _, a | .str _ :: _, _, a | .obj _ _ :: _, _, a | .adr _ :: _, _, a | .emp :: _, _, a => exact a.elim
  | .tup _ :: _ :: _, _, a | .lst _ :: _ :: _, _, a | .rls _ :: _ :: _, _, a => exact a.elim
/-- tuple(..), list(..) of a tuple, of a list -/
def tupleF (xs : List D) (s : S) : R D := match xs with
  | [.tup ds] => .ok (.tup ds) s
  | [.lst ds] => .ok (.tup ds) s
  | [.rls ds] => .ok (.tup ds) s
  | _ => .un
theorem cC_tuple : CmpC K Z E (fun xs H Q => ∃ p ys, xs = [.ref p] ∧ ((SqL K H p ys ∧ ∀ l, H l = none → Q (.ref l) (upd H l (.tup ys))) ∨ (SqT K H p ys ∧ Q (.ref p) H))) tupleF := fun V H s xs ds Q w r a => by
  match ds, r, a with
  | [.tup es], .cons (.tup h hs) .nil, a => exact ⟨_, _, rfl, .inr ⟨Evl.ex_t w.sv h, Ans.pure w (.tup h hs) a⟩⟩
  | [.lst es], .cons (.lst h hs) .nil, a => exact ⟨_, _, rfl, .inl ⟨(SqL.of (w.sv _ _ h)), new_tup w hs a⟩⟩
  | [.rls es], .cons (.rls h hs) .nil, a => exact ⟨_, _, rfl, .inl ⟨Evl.ex_l w.sv h, new_tup w hs a⟩⟩
  | [], _, a => exact a.elim
  | .non :: _, _, a | .bl _ :: _, _, a | .int _ :: _, _, a | .str _ :: _, _, a | .obj _ _ :: _, _, a | .adr _ :: _, _, a | .emp :: _, _, a => exact a.elim
  | .tup _ :: _ :: _, _, a | .lst _ :: _ :: _, _, a | .rls _ :: _ :: _, _, a => exact a.elim
def listF (xs : List D) (s : S) : R D := match xs with
  | [.tup ds] => .ok (.lst ds) s
  | [.lst ds] => .ok (.lst ds) s
  | [.rls ds] => .ok (.lst ds) s
  | _ => .un
theorem cC_list : CmpC K Z E (fun xs H Q => ∃ p ys, xs = [.ref p] ∧ (SqL K H p ys ∨ SqT K H p ys) ∧ ∀ l, H l = none → Q (.ref l) (upd H l (.lst ys))) listF := fun V H s xs ds Q w r a => by
  match ds, r, a with
  | [.tup es], .cons (.tup h hs) .nil, a => exact ⟨_, _, rfl, .inr (Evl.ex_t w.sv h), new_lst w hs a⟩
  | [.lst es], .cons (.lst h hs) .nil, a => exact ⟨_, _, rfl, .inl ((SqL.of (w.sv _ _ h))), new_lst w hs a⟩
  | [.rls es], .cons (.rls h hs) .nil, a => exact ⟨_, _, rfl, .inl (Evl.ex_l w.sv h), new_lst w hs a⟩
  | [], _, a => exact a.elim
  | .non :: _, _, a | .bl _ :: _, _, a | .int _ :: _, _, a | .str _ :: _, _, a | .obj _ _ :: _, _, a | .adr _ :: _, _, a | .emp :: _, _, a => exact a.elim
  | .tup _ :: _ :: _, _, a | .lst _ :: _ :: _, _, a | .rls _ :: _ :: _, _, a => exact a.elim
end
end Pp

set_option maxHeartbeats 1000000
/-! Pp2: statements that compute. -/
namespace Pp
open PySem PySem.Spec PyProof.Rows L2 Pg Pf LamX
inductive Fl where
  | nx (ρ : Slots) | rt (d : D) | bk (ρ : Slots) | ct (ρ : Slots)
/-- within a body: its entry (s0, G0, H0), where one stands -/
structure RepF (K : PySem.W.Frag) (Z : Zn) (s0 : S) (G0 H0 G H : Hp) (σ : L2.St) (ρ : Slots) (s : S) : Prop where
  nx : Nx s0 s G0 H0 G H
  w : Wd Z.T G H s
  p : Rep K Z G H σ ρ s
  new : ∀ (i : Nat) (o : OD) (a : Addr), ρ[i]? = some (.ow o) → σ[i]? = some (some (.ref a)) → Fre H0 a
  dis : ∀ (i j : Nat) (o u : OD) (a : Addr), i ≠ j → ρ[i]? = some (.ow o) → ρ[j]? = some (.ow u) → σ[i]? = some (some (.ref a)) → σ[j]? = some (some (.ref a)) → False
  len : σ.length = ρ.length
def AnsS (K : PySem.W.Frag) (Z : Zn) (E : XK) (r : R Fl) (s0 : S) (G0 H0 G : Hp) (D : Ends) : Prop := match r with
  | .ok (.nx ρ) s => ∀ σ G' H', Same G G' → RepF K Z s0 G0 H0 G' H' σ ρ s → D.nx σ H'
  | .ok (.bk ρ) s => ∀ σ G' H', Same G G' → RepF K Z s0 G0 H0 G' H' σ ρ s → D.bk σ H'
  | .ok (.ct ρ) s => ∀ σ G' H', Same G G' → RepF K Z s0 G0 H0 G' H' σ ρ s → D.ct σ H'
  | .ok (.rt d) s => ∀ v V' H', Nx s0 s G0 H0 V' H' → Wd Z.T V' H' s → Dv K Z V' v d → D.rt v H'
  | .ex e s => ∀ cls dd V' H', Nx s0 s G0 H0 V' H' → Wd Z.T V' H' s → ExR K Z V' cls dd e → E cls dd H'
  | .un => False
  | .dr t k => ∀ i, 0 ≤ i → i < t → AnsS K Z E (k i) s0 G0 H0 G D
  | .an P k => ∀ d s1, P d s1 → AnsS K Z E (k d s1) s0 G0 H0 G D
def CmpS (K : PySem.W.Frag) (Z : Zn) (E : XK) (t : TS) (F : Slots → S → R Fl) : Prop := ∀ s0 G0 H0 G H σ ρ s D, RepF K Z s0 G0 H0 G H σ ρ s → AnsS K Z E (F ρ s) s0 G0 H0 G D → t D σ H
def Sl.all : Sl → Sl
  | .ow o => match o.d with
    | some d => .fz d
    | none => .no
  | x => x
def allS (ρ : Slots) : Slots := ρ.map Sl.all
theorem allS_fz {ρ : Slots} {i : Nat} {d : D} (h : (allS ρ)[i]? = some (.fz d)) : ρ[i]? = some (.fz d) ∨ ∃ o, ρ[i]? = some (.ow o) ∧ o.d = some d := by
  unfold allS at h
  rw [List.getElem?_map] at h
  cases e : ρ[i]? with
  | none =>
    rw [e] at h
    cases h
  | some x =>
    rw [e] at h
    cases x with
    | no => cases h
    | fz y =>
      cases h
      exact .inl rfl
    | ow o =>
      have h' : Sl.all (.ow o) = .fz d := Option.some.inj h
      unfold Sl.all at h'
      simp only at h'
      split at h'
      case h_1 d' y =>
        cases h'
        exact .inr ⟨o, rfl, y⟩
      case h_2 => cases h'
theorem allS_ow {ρ : Slots} {i : Nat} {o : OD} (h : (allS ρ)[i]? = some (.ow o)) : False := by
  unfold allS at h
  rw [List.getElem?_map] at h
  cases e : ρ[i]? with
  | none =>
    rw [e] at h
    cases h
  | some x =>
    rw [e] at h
    cases x with
    | no => cases h
    | fz _ => cases h
    | ow o2 =>
      have h' : Sl.all (.ow o2) = .ow o := Option.some.inj h
      unfold Sl.all at h'
      simp only at h'
      split at h' <;> cases h'
open Classical in
/-- what a body may know of the heap: all but the state's objects, tables, and what the entry did not know -/
noncomputable def vw (G0 H0 H : Hp) (s : S) : Hp := fun p => if inS s p then none else if G0 p = none ∧ ¬ Fre H0 p then none else match H p with
  | some (.tbl _) => none
  | o => o
section
variable {K : PySem.W.Frag} {Z : Zn} {E : XK} {s0 s s' : S} {G0 H0 G H G' H' V' : Hp} {σ : L2.St} {ρ : Slots}
theorem vw_some {p : Addr} {o : HO} (h : vw G0 H0 H s p = some o) : H p = some o ∧ (∀ ps, o ≠ .tbl ps) ∧ ¬ inS s p ∧ (G0 p ≠ none ∨ Fre H0 p) := by
  unfold vw at h
  split at h
  · cases h
  · rename_i i
    split at h
    · cases h
    · rename_i c
      have hc : G0 p ≠ none ∨ Fre H0 p := by
        by_cases g : G0 p = none
        · exact .inr (Classical.byContradiction fun z => c ⟨g, z⟩)
        · exact .inl g
      split at h
      · cases h
      · rename_i n
        exact ⟨h, fun ps z => n ps (z ▸ h), i, hc⟩
theorem vw_of {p : Addr} {o : HO} (h : H p = some o) (n : ∀ ps, o ≠ .tbl ps) (i : ¬ inS s p) (c : G0 p ≠ none ∨ Fre H0 p) : vw G0 H0 H s p = some o := by
  unfold vw
  rw [if_neg i, if_neg fun z => c.elim (fun y => y z.1) z.2, h]
  cases o <;> first | rfl | exact absurd rfl (n _)
theorem RepF.sub (r : RepF K Z s0 G0 H0 G H σ ρ s) : Same G (vw G0 H0 H s) := fun p o e => vw_of (r.w.sv _ _ e) (fun ps z => r.w.nt p ps (z ▸ e)) (fun i => by
  have := r.w.mr.inV i
  rw [e] at this
  cases this) (r.nx.n p (by rw [e]; simp))
theorem RepF.hW (r : RepF K Z s0 G0 H0 G H σ ρ s) : Wd Z.T (vw G0 H0 H s) H s := by
  refine ⟨fun p o e => (vw_some e).1, fun p ps e => (vw_some e).2.1 ps rfl, r.w.tb, ?_⟩
  have m := r.w.mr
  cases s with
  | none => exact trivial
  | some k =>
    obtain ⟨a1, a2, a3, a4, a5, a6, a7⟩ := m
    have no : ∀ p, inS (some k) p → vw G0 H0 H (some k) p = none := fun p i => by
      unfold vw
      rw [if_pos i]
    exact ⟨a1, a2, a3, no _ (.inl rfl), no _ (.inr (.inl rfl)), no _ (.inr (.inr rfl)), a7⟩
theorem RepF.hP (r : RepF K Z s0 G0 H0 G H σ ρ s) : Rep K Z (vw G0 H0 H s) H σ (allS ρ) s := by
  refine ⟨fun i d e0 => ?_, fun i o e0 => (allS_ow e0).elim, by unfold allS; rw [List.length_map]; exact r.p.ln⟩
  rcases allS_fz e0 with e | ⟨o, e, ed⟩
  · obtain ⟨v, h1, h2⟩ := r.p.fz i d e
    exact ⟨v, h1, Dv.mono r.sub _ _ h2⟩
  · obtain ⟨a, u, h1, h2, h3, h4, h5⟩ := r.p.ow i o e
    exact ⟨.ref a, h1, (h3.mono r.sub).dv (vw_of h2 h3.nt h5 (.inr (r.new i o a e h1))) ed⟩
/-- the entry's view of what comes out of the view -/
theorem RepF.out (r : RepF K Z s0 G0 H0 G H σ ρ s) (n : Nx s s' (vw G0 H0 H s) H V' H') : Nx s0 s' G0 H0 V' H' := by
  refine ⟨n.a.trans r.nx.a, (r.nx.g.trans r.sub).trans n.g, fun p o e nt i => n.h p o (r.nx.h p o e nt i) nt (by rw [inS_of r.nx.a]; exact i), fun p e => ?_, fun p e => r.nx.k p (n.k p e)⟩
  rcases n.n p e with z | z
  · cases y : vw G0 H0 H s p with
    | none => exact absurd y z
    | some o => exact (vw_some y).2.2.2
  · exact .inr (r.nx.k p z)
theorem MR.of {V V2 H2 : Hp} (h : MR V H2 s') (a : adr s' = adr s) (m : MR G H s) : MR G H2 s' := by
  cases s' with
  | none => exact trivial
  | some k' =>
    cases s with
    | none => cases a
    | some k =>
      injection a with a
      injection a with a1 a
      injection a with a2 a3
      obtain ⟨b1, b2, b3, b4, b5, b6, b7⟩ := h
      obtain ⟨_, _, _, c4, c5, c6, _⟩ := m
      exact ⟨b1, b2, b3, a1 ▸ c4, a2 ▸ c5, a3 ▸ c6, b7⟩
/-- what is known for good stays as it was -/
theorem RepF.back (r : RepF K Z s0 G0 H0 G H σ ρ s) (n : Nx s s' (vw G0 H0 H s) H V' H') (w : Wd Z.T V' H' s') : RepF K Z s0 G0 H0 G H' σ ρ s' := by
  refine ⟨⟨n.a.trans r.nx.a, r.nx.g, fun p o e nt i => n.h p o (r.nx.h p o e nt i) nt (by rw [inS_of r.nx.a]; exact i), r.nx.n, fun p e => r.nx.k p (n.k p e)⟩,
    ⟨(r.sub.trans n.g).trans w.sv, r.w.nt, w.tb, MR.of (V2 := V') w.mr n.a r.w.mr⟩, ⟨r.p.fz, fun i o e => ?_, r.p.ln⟩, r.new, r.dis, r.len⟩
  obtain ⟨a, u, h1, h2, h3, h4, h5⟩ := r.p.ow i o e
  exact ⟨a, u, h1, n.h a u h2 h3.nt h5, h3, h4, by rw [inS_of n.a]; exact h5⟩
/-- all that is one's own is known for good from now on -/
theorem RepF.froz (r : RepF K Z s0 G0 H0 G H σ ρ s) (n : Nx s s' (vw G0 H0 H s) H V' H') (w : Wd Z.T V' H' s') : RepF K Z s0 G0 H0 V' H' σ (allS ρ) s' :=
  ⟨r.out n, w, r.hP.later n, fun i o a e _ => (allS_ow e).elim, fun i j o u a _ e _ _ _ => (allS_ow e).elim, by unfold allS; rw [List.length_map]; exact r.len⟩
/-- a frozen expression -/
theorem RepF.on (r : RepF K Z s0 G0 H0 G H σ ρ s) (n : Nx s s' G H G' H') (w : Wd Z.T G' H' s') : RepF K Z s0 G0 H0 G' H' σ ρ s' :=
  ⟨r.nx.trans n, w, r.p.later n, r.new, r.dis, r.len⟩
/-- a slot gets a value -/
theorem RepF.set (r : RepF K Z s0 G0 H0 G H σ ρ s) {i : Nat} {v : V} {d : D} (h : Dv K Z G v d) : RepF K Z s0 G0 H0 G H (σ.set i (some v)) (ρ.set i (.fz d)) s := by
  have old : ∀ {j : Nat} {x : Sl}, (ρ.set i (.fz d))[j]? = some x → (j = i ∧ x = .fz d ∧ i < ρ.length) ∨ (j ≠ i ∧ ρ[j]? = some x) := fun {j x} e => by
    by_cases z : j = i
    · subst z
      by_cases l : j < ρ.length
      · rw [List.getElem?_set_self l] at e
        exact .inl ⟨rfl, (Option.some.inj e).symm, l⟩
      · rw [List.getElem?_eq_none (by rw [List.length_set]; omega)] at e
        cases e
    · rw [List.getElem?_set_ne (Ne.symm z)] at e
      exact .inr ⟨z, e⟩
  have σo : ∀ {j : Nat}, j ≠ i → (σ.set i (some v))[j]? = σ[j]? := fun {j} z => List.getElem?_set_ne (Ne.symm z)
  refine ⟨r.nx, r.w, ⟨fun j x e => ?_, fun j o e => ?_, by rw [List.length_set, List.length_set]; exact r.len⟩, fun j o a e1 e2 => ?_, fun j k o u a n e1 e2 e3 e4 => ?_, by rw [List.length_set, List.length_set]; exact r.len⟩
  · rcases old e with ⟨rfl, y, l⟩ | ⟨z, e⟩
    · cases y
      exact ⟨v, List.getElem?_set_self (by rw [r.len]; exact l), h⟩
    · rw [σo z]
      exact r.p.fz j x e
  · rcases old e with ⟨rfl, y, l⟩ | ⟨z, e⟩
    · cases y
    · rw [σo z]
      exact r.p.ow j o e
  · rcases old e1 with ⟨rfl, y, l⟩ | ⟨z, e⟩
    · cases y
    · rw [σo z] at e2
      exact r.new j o a e e2
  · rcases old e1 with ⟨rfl, y, l⟩ | ⟨z, e⟩
    · cases y
    · rcases old e2 with ⟨rfl, y, l⟩ | ⟨z2, f⟩
      · cases y
      · rw [σo z] at e3
        rw [σo z2] at e4
        exact r.dis j k o u a n e f e3 e4
/-- a slot gets a new object of its own -/
theorem RepF.own (r : RepF K Z s0 G0 H0 G H σ ρ s) {i : Nat} {a : Addr} {u : HO} {o : OD} (h : H a = some u) (hd : HD K Z G u o) (g : G a = none) (is : ¬ inS s a) (n0 : Fre H0 a) (fr : ∀ (j : Nat) (o : OD), ρ[j]? = some (.ow o) → σ[j]? = some (some (.ref a)) → j = i) :
    RepF K Z s0 G0 H0 G H (σ.set i (some (.ref a))) (ρ.set i (.ow o)) s := by
  have old : ∀ {j : Nat} {x : Sl}, (ρ.set i (.ow o))[j]? = some x → (j = i ∧ x = .ow o ∧ i < ρ.length) ∨ (j ≠ i ∧ ρ[j]? = some x) := fun {j x} e => by
    by_cases z : j = i
    · subst z
      by_cases l : j < ρ.length
      · rw [List.getElem?_set_self l] at e
        exact .inl ⟨rfl, (Option.some.inj e).symm, l⟩
      · rw [List.getElem?_eq_none (by rw [List.length_set]; omega)] at e
        cases e
    · rw [List.getElem?_set_ne (Ne.symm z)] at e
      exact .inr ⟨z, e⟩
  have σo : ∀ {j : Nat}, j ≠ i → (σ.set i (some (.ref a)))[j]? = σ[j]? := fun {j} z => List.getElem?_set_ne (Ne.symm z)
  have σs : i < ρ.length → (σ.set i (some (V.ref a)))[i]? = some (some (.ref a)) := fun l => List.getElem?_set_self (by rw [r.len]; exact l)
  refine ⟨r.nx, r.w, ⟨fun j x e => ?_, fun j x e => ?_, by rw [List.length_set, List.length_set]; exact r.len⟩, fun j x b e1 e2 => ?_, fun j k x y b n e1 e2 e3 e4 => ?_, by rw [List.length_set, List.length_set]; exact r.len⟩
  · rcases old e with ⟨rfl, y, l⟩ | ⟨z, e⟩
    · cases y
    · rw [σo z]
      exact r.p.fz j x e
  · rcases old e with ⟨rfl, y, l⟩ | ⟨z, e⟩
    · cases y
      exact ⟨a, u, σs l, h, hd, g, is⟩
    · rw [σo z]
      exact r.p.ow j x e
  · rcases old e1 with ⟨rfl, y, l⟩ | ⟨z, e⟩
    · rw [σs l] at e2
      cases e2
      exact n0
    · rw [σo z] at e2
      exact r.new j x b e e2
  · rcases old e1 with ⟨rfl, p, l⟩ | ⟨z, e⟩
    · rcases old e2 with ⟨rfl, p, l2⟩ | ⟨z2, f⟩
      · exact n rfl
      · rw [σs l] at e3
        cases e3
        rw [σo z2] at e4
        exact z2 (fr k y f e4)
    · rcases old e2 with ⟨rfl, p, l⟩ | ⟨z2, f⟩
      · rw [σs l] at e4
        cases e4
        rw [σo z] at e3
        exact z (fr j x e e3)
      · rw [σo z] at e3
        rw [σo z2] at e4
        exact r.dis j k x y b n e f e3 e4
/-- a new object is no slot's own -/
theorem RepF.fr (r : RepF K Z s0 G0 H0 G H σ ρ s) {a : Addr} (h : Fre H a) {j : Nat} {o : OD} (e : ρ[j]? = some (.ow o)) (f : σ[j]? = some (some (.ref a))) : False := by
  obtain ⟨b, u, h1, h2, h3, _⟩ := r.p.ow j o e
  rw [h1] at f
  cases f
  exact fre_ne h2 h3.nt h rfl
/-- an own object changes -/
theorem RepF.mut (r : RepF K Z s0 G0 H0 G H σ ρ s) {i : Nat} {a : Addr} {u' : HO} {o o' : OD} (e : ρ[i]? = some (.ow o)) (f : σ[i]? = some (some (.ref a))) (hd : HD K Z G u' o') : RepF K Z s0 G0 H0 G (upd H a u') σ (ρ.set i (.ow o')) s := by
  obtain ⟨b, u, h1, h2, h3, h4, h5⟩ := r.p.ow i o e
  rw [f] at h1
  cases h1
  have l : i < ρ.length := (List.getElem?_eq_some_iff.mp e).1
  have n0 := r.new i o a e f
  have old : ∀ {j : Nat} {x : Sl}, (ρ.set i (.ow o'))[j]? = some x → (j = i ∧ x = .ow o') ∨ (j ≠ i ∧ ρ[j]? = some x) := fun {j x} e => by
    by_cases z : j = i
    · subst z
      rw [List.getElem?_set_self l] at e
      exact .inl ⟨rfl, (Option.some.inj e).symm⟩
    · rw [List.getElem?_set_ne (Ne.symm z)] at e
      exact .inr ⟨z, e⟩
  refine ⟨r.nx.mut n0, r.w.mut h2 h4 h5 h3.nt h3.ne, ⟨fun j x ej => ?_, fun j x ej => ?_, by rw [List.length_set]; exact r.len⟩, fun j x b e1 e2 => ?_, fun j k x y b n e1 e2 e3 e4 => ?_, by rw [List.length_set]; exact r.len⟩
  · rcases old ej with ⟨rfl, y⟩ | ⟨z, ej⟩
    · cases y
    · exact r.p.fz j x ej
  · rcases old ej with ⟨rfl, y⟩ | ⟨z, ej⟩
    · cases y
      exact ⟨a, u', f, upd_same, hd, h4, h5⟩
    · obtain ⟨b, v, q1, q2, q3, q4, q5⟩ := r.p.ow j x ej
      refine ⟨b, v, q1, ?_, q3, q4, q5⟩
      rw [upd_ne fun y => r.dis j i x o a z ej e (by rw [← y]; exact q1) f]
      exact q2
  · rcases old e1 with ⟨rfl, y⟩ | ⟨z, ej⟩
    · exact r.new j o b e e2
    · exact r.new j x b ej e2
  · rcases old e1 with ⟨rfl, p⟩ | ⟨z, ej⟩
    · rcases old e2 with ⟨rfl, p⟩ | ⟨z2, ek⟩
      · exact n rfl
      · exact r.dis j k o y b n e ek e3 e4
    · rcases old e2 with ⟨rfl, p⟩ | ⟨z2, ek⟩
      · exact r.dis j k x o b n ej e e3 e4
      · exact r.dis j k x y b n ej ek e3 e4
theorem AnsS.later {r : R Fl} {D : Ends} {G1 : Hp} (e : Same G G1) (h : AnsS K Z E r s0 G0 H0 G D) : AnsS K Z E r s0 G0 H0 G1 D := by
  induction r with
  | ok fl s =>
    cases fl with
    | nx ρ => exact fun σ G' H' q => h σ G' H' (e.trans q)
    | bk ρ => exact fun σ G' H' q => h σ G' H' (e.trans q)
    | ct ρ => exact fun σ G' H' q => h σ G' H' (e.trans q)
    | rt d => exact h
  | ex e s => exact h
  | un => exact h
  | dr t k ih => exact fun i h0 h1 => ih i (h i h0 h1)
  | an P k ih => exact fun d s2 hp => ih d s2 (h d s2 hp)
/-- a statement, then k -/
theorem AnsS.bindS {r : R Fl} {k : Fl → S → R Fl} {D D' : Ends} (h : AnsS K Z E (r.bind k) s0 G0 H0 G D) (c : ∀ fl s, AnsS K Z E (k fl s) s0 G0 H0 G D → AnsS K Z E (.ok fl s) s0 G0 H0 G D') : AnsS K Z E r s0 G0 H0 G D' := by
  induction r with
  | ok fl s => exact c fl s h
  | ex e s => exact h
  | un => exact h
  | dr t k ih => exact fun i h0 h1 => ih i (h i h0 h1)
  | an P k ih => exact fun d s2 hp => ih d s2 (h d s2 hp)
/-- an expression seen with all that is one's own, then k -/
theorem AnsS.bindH {α β : Type} {Rl : Hp → β → α → Prop} {r : R α} {k : α → S → R Fl} {D : Ends} {Q1 : β → Hp → Prop} (F : RepF K Z s0 G0 H0 G H σ ρ s) (h : AnsS K Z E (r.bind k) s0 G0 H0 G D)
    (c : ∀ d s' v V' H', Nx s s' (vw G0 H0 H s) H V' H' → Wd Z.T V' H' s' → Rl V' v d → AnsS K Z E (k d s') s0 G0 H0 G D → Q1 v H') : Ans K Z E Rl r s (vw G0 H0 H s) H Q1 := by
  induction r with
  | ok d s2 => exact fun v V2 H2 n w q => c d s2 v V2 H2 n w q h
  | ex e s2 => exact fun cls dd V2 H2 n w q => h cls dd V2 H2 (F.out n) w q
  | un => exact h
  | dr t k ih => exact fun i h0 h1 => ih i (h i h0 h1)
  | an P k ih => exact fun d s2 hp => ih d s2 (h d s2 hp)
/-- .. with what is known for good -/
theorem AnsS.bindF {α β : Type} {Rl : Hp → β → α → Prop} {r : R α} {k : α → S → R Fl} {D : Ends} {Q1 : β → Hp → Prop} (F : RepF K Z s0 G0 H0 G H σ ρ s) (h : AnsS K Z E (r.bind k) s0 G0 H0 G D)
    (c : ∀ d s' v V' H', Nx s s' G H V' H' → Wd Z.T V' H' s' → Rl V' v d → AnsS K Z E (k d s') s0 G0 H0 V' D → Q1 v H') : Ans K Z E Rl r s G H Q1 := by
  induction r with
  | ok d s2 => exact fun v V2 H2 n w q => c d s2 v V2 H2 n w q (AnsS.later n.g h)
  | ex e s2 => exact fun cls dd V2 H2 n w q => h cls dd V2 H2 (F.nx.trans n) w q
  | un => exact h
  | dr t k ih => exact fun i h0 h1 => ih i (h i h0 h1)
  | an P k ih => exact fun d s2 hp => ih d s2 (h d s2 hp)
end
/-! ### what statements compute -/
def nxS (ρ : Slots) (s : S) : R Fl := .ok (.nx ρ) s
def seqS (F1 F2 : Slots → S → R Fl) (ρ : Slots) (s : S) : R Fl := (F1 ρ s).bind fun fl s => match fl with
  | .nx ρ => F2 ρ s
  | x => .ok x s
def ifS (p : Slots → S → R Bool) (F1 F2 : Slots → S → R Fl) (ρ : Slots) (s : S) : R Fl := (p (allS ρ) s).bind fun b s => if b = true then F1 ρ s else F2 ρ s
def retS (f : Slots → S → R D) (ρ : Slots) (s : S) : R Fl := (f (allS ρ) s).bind fun d s => .ok (.rt d) s
def dropS (f : Slots → S → R D) (ρ : Slots) (s : S) : R Fl := (f (allS ρ) s).bind fun _ s => .ok (.nx ρ) s
/-- x = e : e reads nothing of one's own -/
def setF (i : Nat) (f : Slots → S → R D) (ρ : Slots) (s : S) : R Fl := (f ρ s).bind fun d s => .ok (.nx (ρ.set i (.fz d))) s
/-- .. it may; all that is one's own is given up -/
def setA (i : Nat) (f : Slots → S → R D) (ρ : Slots) (s : S) : R Fl := (f (allS ρ) s).bind fun d s => .ok (.nx ((allS ρ).set i (.fz d))) s
/-- .. it may; the value is a number and the like -/
def isSc : D → Bool
  | .non | .bl _ | .int _ | .str _ => true
  | _ => false
def setN (i : Nat) (f : Slots → S → R D) (ρ : Slots) (s : S) : R Fl := (f (allS ρ) s).bind fun d s => if isSc d = true then .ok (.nx (ρ.set i (.fz d))) s else .un
/-- x = [..] : a list of one's own -/
def setL (i : Nat) (f : Slots → S → R (List D)) (ρ : Slots) (s : S) : R Fl := (f ρ s).bind fun ds s => if fits ds.length = true then .ok (.nx (ρ.set i (.ow (.ls ds)))) s else .un
/-- x.append(e) -/
def appS (i : Nat) (f : Slots → S → R D) (ρ : Slots) (s : S) : R Fl := match ρ[i]? with
  | some (.ow (.ls ds)) => (f ρ s).bind fun d s => if fits (ds.length + 1) = true then .ok (.nx (ρ.set i (.ow (.ls (ds ++ [d]))))) s else .un
  | _ => .un
def brkS (ρ : Slots) (s : S) : R Fl := .ok (.bk ρ) s
def cntS (ρ : Slots) (s : S) : R Fl := .ok (.ct ρ) s
section
variable {K : PySem.W.Frag} {Z : Zn} {E : XK} {t u : TS} {F1 F2 : Slots → S → R Fl} {te : TE} {f : Slots → S → R D} {tt : TT} {p : Slots → S → R Bool} {ua : TA} {fa : Slots → S → R (List D)}
theorem cs_next : CmpS K Z E tNext nxS := fun s0 G0 H0 G H σ ρ s D r a => a σ G H (Same.refl _) r
theorem cs_break : CmpS K Z E tBreak brkS := fun s0 G0 H0 G H σ ρ s D r a => a σ G H (Same.refl _) r
theorem cs_cont : CmpS K Z E tCont cntS := fun s0 G0 H0 G H σ ρ s D r a => a σ G H (Same.refl _) r
theorem cs_seq (h1 : CmpS K Z E t F1) (h2 : CmpS K Z E u F2) : CmpS K Z E (tSeq t u) (seqS F1 F2) := fun s0 G0 H0 G H σ ρ s D r a => by
  refine h1 s0 G0 H0 G H σ ρ s _ r (AnsS.bindS a fun fl s1 a => ?_)
  cases fl with
  | nx ρ1 => exact fun σ1 G1 H1 q r1 => h2 s0 G0 H0 G1 H1 σ1 ρ1 s1 D r1 (AnsS.later q a)
  | bk ρ1 => exact a
  | ct ρ1 => exact a
  | rt d => exact a
theorem cs_if (hc : CmpT K Z E tt p) (h1 : CmpS K Z E t F1) (h2 : CmpS K Z E u F2) : CmpS K Z E (tIfS tt t u) (ifS p F1 F2) := fun s0 G0 H0 G H σ ρ s D r a =>
  hc _ H σ (allS ρ) s _ r.hW r.hP (AnsS.bindH r a fun b s1 c V1 H1 n1 w1 e a1 => by
    subst e
    by_cases hb : c = true
    · rw [if_pos hb] at a1 ⊢
      exact h1 s0 G0 H0 G H1 σ ρ s1 D (r.back n1 w1) a1
    · rw [if_neg hb] at a1 ⊢
      exact h2 s0 G0 H0 G H1 σ ρ s1 D (r.back n1 w1) a1)
theorem cs_ret (h : Cmp K Z E te f) : CmpS K Z E (tRet te) (retS f) := fun s0 G0 H0 G H σ ρ s D r a =>
  h _ H σ (allS ρ) s _ r.hW r.hP (AnsS.bindH r a fun d s1 v V1 H1 n1 w1 e a1 => a1 v V1 H1 (r.out n1) w1 e)
theorem cs_drop (h : Cmp K Z E te f) : CmpS K Z E (tDrop te) (dropS f) := fun s0 G0 H0 G H σ ρ s D r a =>
  h _ H σ (allS ρ) s _ r.hW r.hP (AnsS.bindH r a fun d s1 v V1 H1 n1 w1 e a1 => a1 σ G H1 (Same.refl _) (r.back n1 w1))
theorem cs_setF (i : Nat) (h : Cmp K Z E te f) : CmpS K Z E (tAsg te (gName i)) (setF i f) := fun s0 G0 H0 G H σ ρ s D r a =>
  h G H σ ρ s _ r.w r.p (AnsS.bindF r a fun d s1 v V1 H1 n1 w1 e a1 => a1 _ V1 H1 (Same.refl _) ((r.on n1 w1).set e))
theorem cs_setA (i : Nat) (h : Cmp K Z E te f) : CmpS K Z E (tAsg te (gName i)) (setA i f) := fun s0 G0 H0 G H σ ρ s D r a =>
  h _ H σ (allS ρ) s _ r.hW r.hP (AnsS.bindH r a fun d s1 v V1 H1 n1 w1 e a1 => a1 _ V1 H1 (r.sub.trans n1.g) ((r.froz n1 w1).set e))
theorem sc_dv {G G' : Hp} {v : V} {d : D} (h : Dv K Z G v d) (e : isSc d = true) : Dv K Z G' v d := by
  cases h with
  | non => exact .non
  | bl b => exact .bl b
  | int i => exact .int i
  | str x => exact .str x
  | _ => cases e
theorem cs_setN (i : Nat) (h : Cmp K Z E te f) : CmpS K Z E (tAsg te (gName i)) (setN i f) := fun s0 G0 H0 G H σ ρ s D r a =>
  h _ H σ (allS ρ) s _ r.hW r.hP (AnsS.bindH r a fun d s1 v V1 H1 n1 w1 e a1 => by
    by_cases z : isSc d = true
    · rw [if_pos z] at a1
      exact a1 _ G H1 (Same.refl _) ((r.back n1 w1).set (sc_dv e z))
    · rw [if_neg z] at a1
      exact a1.elim)
/-- a list display -/
theorem cs_setL (i : Nat) (h : CmpA K Z E ua fa) : CmpS K Z E (tAsg (tLst ua) (gName i)) (setL i fa) := fun s0 G0 H0 G H σ ρ s D r a =>
  h G H σ ρ s _ r.w r.p (AnsS.bindF r a fun ds s1 vs V1 H1 n1 w1 e a1 => by
    by_cases z : fits ds.length = true
    · rw [if_pos z] at a1
      refine ⟨by rw [e.len]; exact fits_le z, fun q hq => ?_⟩
      have r1 := r.on n1 w1
      have is : ¬ inS s1 q := fun y => w1.mr.inH y hq
      have r2 := r1.on (Nx.up (o := .lst vs) hq) (w1.up hq)
      exact a1 _ V1 _ (Same.refl _) (r2.own upd_same (.ls e) (w1.sv.free hq) is (r1.nx.k q (.inl hq)) fun j o ej ef => (r1.fr (.inl hq) ej ef).elim)
    · rw [if_neg z] at a1
      exact a1.elim)
theorem cs_app (i : Nat) (h : Cmp K Z E te f) : CmpS K Z E (tDrop (tBM K "list" rAppend (tVar i) (tCons te tNil))) (appS i f) := fun s0 G0 H0 G H σ ρ s D r a => by
  unfold appS at a
  match e : ρ[i]?, a with
  | some (.ow (.ls ds)), a =>
    obtain ⟨b, u, h1, h2, h3, h4, h5⟩ := r.p.ow i _ e
    cases h3 with
    | @ls vs _ hs =>
      refine ⟨.ref b, h1, .inl ⟨rfl, _, SqL.of h2⟩, ?_⟩
      refine h G H σ ρ s _ r.w r.p (AnsS.bindF r a fun d s1 v V1 H1 n1 w1 q a1 => ?_)
      by_cases z : fits (ds.length + 1) = true
      · rw [if_pos z] at a1
        have r1 := r.on n1 w1
        have hb := n1.h b _ h2 (fun ps z => by cases z) h5
        refine ⟨b, vs, v, rfl, rfl, hb, ?_, ?_⟩
        · rw [hs.len]
          have := fits_lt z
          omega
        · exact a1 _ V1 _ (Same.refl _) (r1.mut e h1 (.ls ((DvA.mono n1.g _ _ hs).snoc q)))
      · rw [if_neg z] at a1
        exact a1.elim
  | none, a => exact a.elim
  | some .no, a => exact a.elim
  | some (.fz d), a => exact a.elim
  | some (.ow (.is c ns ds)), a => exact a.elim
/-- code that is never come to -/
theorem cs_never : CmpS K Z E tNever (fun _ _ => .un) := fun s0 G0 H0 G H σ ρ s D r a => a
end
end Pp

set_option maxHeartbeats 1000000
/-! Pp3: targets, loops, comprehensions. -/
namespace Pp
open PySem PySem.Spec PyProof.Rows L2 Pg Pf LamX
/-! ### targets -/
def CmpG (t : TG) (g : D → Slots → Option Slots) (is : List Nat) (K : PySem.W.Frag) (Z : Zn) : Prop := ∀ (P : L2.St → Slots → Prop) (V H : Hp), Same V H → (∀ σ ρ i v d, i ∈ is → P σ ρ → Dv K Z V v d → P (σ.set i (some v)) (ρ.set i (.fz d))) →
  ∀ σ ρ v d Q, P σ ρ → Dv K Z V v d → (match g d ρ with
    | some ρ' => ∀ σ', P σ' ρ' → Q σ' H
    | none => False) → t v σ H Q
def CmpGs (t : TGs) (g : List D → Slots → Option Slots) (is : List Nat) (K : PySem.W.Frag) (Z : Zn) : Prop := ∀ (P : L2.St → Slots → Prop) (V H : Hp), Same V H → (∀ σ ρ i v d, i ∈ is → P σ ρ → Dv K Z V v d → P (σ.set i (some v)) (ρ.set i (.fz d))) →
  ∀ σ ρ vs ds Q, P σ ρ → DvA K Z V vs ds → (match g ds ρ with
    | some ρ' => ∀ σ', P σ' ρ' → Q σ' H
    | none => False) → t vs σ H Q
def gN (i : Nat) (d : D) (ρ : Slots) : Option Slots := some (ρ.set i (.fz d))
def gT (n : Nat) (g : List D → Slots → Option Slots) (d : D) (ρ : Slots) : Option Slots := match d with
  | .tup ds => if ds.length = n then g ds ρ else none
  | _ => none
def gs0 (ds : List D) (ρ : Slots) : Option Slots := match ds with
  | [] => some ρ
  | _ => none
def gsC (g : D → Slots → Option Slots) (gs : List D → Slots → Option Slots) (ds : List D) (ρ : Slots) : Option Slots := match ds with
  | d :: ds => (g d ρ).bind (gs ds)
  | [] => none
section
variable {K : PySem.W.Frag} {Z : Zn} {t : TG} {ts : TGs} {g : D → Slots → Option Slots} {gs : List D → Slots → Option Slots} {is js : List Nat}
theorem cg_name (i : Nat) : CmpG (gName i) (gN i) [i] K Z := fun P V H sv st σ ρ v d Q p r h => h _ (st σ ρ i v d (by simp) p r)
theorem cg_tup {n : Nat} (h : CmpGs ts gs is K Z) : CmpG (gTup K n ts) (gT n gs) is K Z := fun P V H sv st σ ρ v d Q p r a => by
  cases r with
  | @tup b vs ds hx hs =>
    unfold gT at a
    by_cases e : ds.length = n
    · simp only [if_pos e] at a
      exact ⟨b, vs, rfl, Evl.ex_t sv hx, hs.len.trans e, h P V H sv st σ ρ vs ds Q p hs a⟩
    · simp only [if_neg e] at a
  | _ => exact a.elim
theorem cg_nil : CmpGs gNil gs0 [] K Z := fun P V H sv st σ ρ vs ds Q p r a => by
  cases r with
  | nil => exact ⟨rfl, a σ p⟩
  | cons _ _ => exact a.elim
theorem cg_cons (h : CmpG t g is K Z) (h2 : CmpGs ts gs js K Z) : CmpGs (gCons t ts) (gsC g gs) (is ++ js) K Z := fun P V H sv st σ ρ vs ds Q p r a => by
  cases r with
  | nil => exact a.elim
  | @cons v d vs ds hv hs =>
    refine ⟨v, vs, rfl, h P V H sv (fun σ ρ i v d e => st σ ρ i v d (List.mem_append_left _ e)) σ ρ v d _ p hv ?_⟩
    cases e : g d ρ with
    | none =>
      simp only [gsC, e] at a
      exact a
    | some ρ1 => exact fun σ1 p1 => h2 P V H sv (fun σ ρ i v d e => st σ ρ i v d (List.mem_append_right _ e)) σ1 ρ1 vs ds Q p1 hs (by simp only [gsC, e] at a; exact a)
end
/-! ### what is walked -/
structure ItR (K : PySem.W.Frag) (Z : Zn) (V : Hp) (J : It) (ds : List D) : Prop where
  go : ∀ i V1 H1, Same V V1 → Same V1 H1 → i < ds.length → J.go i H1
  stop : ∀ V1 H1, Same V V1 → Same V1 H1 → J.stop ds.length H1
  yld : ∀ i V1 H1 x H2, Same V V1 → Same V1 H1 → i < ds.length → J.yld i H1 x H2 → ∃ d, ds[i]? = some d ∧ ((H2 = H1 ∧ Dv K Z V1 x d) ∨ ∃ T xs, x = .ref T ∧ H1 T = none ∧ H2 = upd H1 T (.tup xs) ∧ Dv K Z (upd V1 T (.tup xs)) x d)
def CmpI (K : PySem.W.Frag) (Z : Zn) (E : XK) (t : TI) (f : Slots → S → R (List D)) : Prop := ∀ V H σ ρ s Q, Wd Z.T V H s → Rep K Z V H σ ρ s → Ans K Z E (ItR K Z) (f ρ s) s V H Q → t σ H Q
/-- a list or a tuple -/
def iSeq (K : PySem.W.Frag) (tl : TE) : TI := fun σ H R => tl σ H fun x H1 => ∃ a, x = .ref a ∧ (((∃ xs, SqL K H1 a xs) ∧ R (Itl K a) H1) ∨ ((∃ xs, SqT K H1 a xs) ∧ R (Itt K a) H1))
theorem pi_seq {X : Cx} {tg l : Expr} {tl : TE} (hl : PE X l tl) : PI X tg l (iSeq X.K tl) := by
  refine ⟨fun pins s σ H R I h => ?_⟩
  refine thn (hl.run pins s σ H _ I h) fun v s1 ⟨x, H1, I1, r1, q1⟩ => ?_
  obtain ⟨a, e, q1⟩ := q1
  subst e
  cases r1
  rcases q1 with ⟨⟨xs, hq⟩, q⟩ | ⟨⟨xs, hq⟩, q⟩
  · obtain ⟨its, rv, p, hz⟩ := I1.list hq
    refine wpAny_pyIter_list p.isList ?_
    refine ⟨s1.heap.objs.size, [s1.heap.objs.size], _, _, H1, rfl, I1.kept (t' := s1.toks) fun b o e => Heap.get?_push_of_some _ e, turn_list a _, ⟨_, Heap.get?_push_size _ rfl, rfl, rfl⟩, fun b hb => ?_, q⟩
    have e : b = s1.heap.objs.size := by simpa using hb
    subst e
    exact I1.fpOk (Nat.le_refl _) (I1.hok.fresh (Nat.le_refl _))
  · obtain ⟨its, rv, p, hz⟩ := I1.tuple hq
    refine wpAny_pyIter_tuple (show s1.heap.IsTuple a its.toArray from p) ?_
    refine ⟨s1.heap.objs.size, [s1.heap.objs.size], _, _, H1, rfl, I1.kept (t' := s1.toks) fun b o e => Heap.get?_push_of_some _ e, turn_tuple a _, ⟨_, Heap.get?_push_size _ rfl, rfl, rfl⟩, fun b hb => ?_, q⟩
    have e : b = s1.heap.objs.size := by simpa using hb
    subst e
    exact I1.fpOk (Nat.le_refl _) (I1.hok.fresh (Nat.le_refl _))
def itmF (d : D) (s : S) : R (List D) := match d with
  | .lst ds => .ok ds s
  | .rls ds => .ok ds s
  | .tup ds => .ok ds s
  | _ => .un
def seqI (f : Slots → S → R D) (ρ : Slots) (s : S) : R (List D) := (f ρ s).bind itmF
def rngD (lo : Int) (n : Nat) : List D := (List.range n).map fun i => .int (lo + (i : Nat))
def rgB (i : Int) : Bool := decide (-(2 ^ 62) ≤ i) && decide (i < 2 ^ 62)
def rg1F (ds : List D) (s : S) : R (List D) := match ds with
  | [.int j] => if rgB j = true then .ok (rngD 0 j.toNat) s else .un
  | _ => .un
def rg2F (ds : List D) (s : S) : R (List D) := match ds with
  | [.int i, .int j] => if (rgB i && rgB j) = true then .ok (rngD i (j - i).toNat) s else .un
  | _ => .un
def rgI (k : List D → S → R (List D)) (f : Slots → S → R (List D)) (ρ : Slots) (s : S) : R (List D) := (f ρ s).bind k
section
variable {K : PySem.W.Frag} {Z : Zn} {E : XK} {te : TE} {f : Slots → S → R D} {ua : TA} {fa : Slots → S → R (List D)}
theorem itR_list {V : Hp} {a : Addr} {vs : List L2.V} {ds : List D} (h : SqL K V a vs) (hs : DvA K Z V vs ds) : ItR K Z V (Itl K a) ds := by
  refine ⟨fun i V1 H1 e1 e2 l => ?_, fun V1 H1 e1 e2 => ⟨vs, (Evl.ex_l e2 (Evl.ex_l e1 h)), by rw [hs.len]; exact Nat.le_refl _⟩, fun i V1 H1 x H2 e1 e2 l y => ?_⟩
  · have l2 : i < vs.length := by rw [hs.len]; exact l
    exact ⟨vs, vs[i], (Evl.ex_l e2 (Evl.ex_l e1 h)), List.getElem?_eq_getElem l2⟩
  · obtain ⟨rfl, q⟩ := y
    obtain ⟨d, e, r⟩ := hs.at' (q vs ((Evl.ex_l e2 (Evl.ex_l e1 h))))
    exact ⟨d, e, .inl ⟨rfl, Dv.mono e1 _ _ r⟩⟩
theorem itR_tup {V : Hp} {a : Addr} {vs : List L2.V} {ds : List D} (h : SqT K V a vs) (hs : DvA K Z V vs ds) : ItR K Z V (Itt K a) ds := by
  have st : ∀ {V1 H1 : Hp}, Same V V1 → Same V1 H1 → SqT K H1 a vs := fun e1 e2 => Evl.ex_t (e1.trans e2) h
  refine ⟨fun i V1 H1 e1 e2 l => ?_, fun V1 H1 e1 e2 => ⟨vs, st e1 e2, by rw [hs.len]; exact Nat.le_refl _⟩, fun i V1 H1 x H2 e1 e2 l y => ?_⟩
  · have l2 : i < vs.length := by rw [hs.len]; exact l
    exact ⟨vs, vs[i], st e1 e2, List.getElem?_eq_getElem l2⟩
  · obtain ⟨rfl, q⟩ := y
    obtain ⟨d, e, r⟩ := hs.at' (q vs (st e1 e2))
    exact ⟨d, e, .inl ⟨rfl, Dv.mono e1 _ _ r⟩⟩
theorem rngD_len (lo : Int) (n : Nat) : (rngD lo n).length = n := by unfold rngD; rw [List.length_map, List.length_range]
theorem itR_rng {V : Hp} (lo : Int) (n : Nat) : ItR K Z V (Itr lo n) (rngD lo n) := by
  refine ⟨fun i V1 H1 e1 e2 l => by rw [rngD_len] at l; exact l, fun V1 H1 e1 e2 => by rw [rngD_len]; exact Nat.le_refl _, fun i V1 H1 x H2 e1 e2 l y => ?_⟩
  obtain ⟨rfl, rfl⟩ := y
  rw [rngD_len] at l
  refine ⟨.int (lo + (i : Nat)), ?_, .inl ⟨rfl, .int _⟩⟩
  unfold rngD
  rw [List.getElem?_map, List.getElem?_range l]
  rfl
theorem ci_seq (h : Cmp K Z E te f) : CmpI K Z E (iSeq K te) (seqI f) := fun V H σ ρ s Q w p a =>
  h V H σ ρ s _ w p (Ans.bind a fun d s1 v V1 H1 n1 w1 r1 a1 => by
    cases r1 with
    | @lst b vs ds hx hs => exact ⟨b, rfl, .inl ⟨⟨_, Evl.ex_l w1.sv (SqL.of hx)⟩, Ans.pure w1 (itR_list (SqL.of hx) hs) a1⟩⟩
    | @rls b vs ds hx hs => exact ⟨b, rfl, .inl ⟨⟨_, Evl.ex_l w1.sv hx⟩, Ans.pure w1 (itR_list hx hs) a1⟩⟩
    | @tup b vs ds hx hs => exact ⟨b, rfl, .inr ⟨⟨_, Evl.ex_t w1.sv hx⟩, Ans.pure w1 (itR_tup hx hs) a1⟩⟩
    | _ => exact a1.elim)
theorem rgB_of {i : Int} (h : rgB i = true) : -(2 ^ 62) ≤ i ∧ i < 2 ^ 62 := by
  have := Bool.and_eq_true_iff.mp h
  exact ⟨of_decide_eq_true this.1, of_decide_eq_true this.2⟩
theorem ci_rng1 (h : CmpA K Z E ua fa) : CmpI K Z E (iRng1 ua) (rgI rg1F fa) := fun V H σ ρ s Q w p a =>
  h V H σ ρ s _ w p (Ans.bind a fun d s1 v V1 H1 n1 w1 r1 a1 => by
    match d, r1, a1 with
    | [.int j], .cons (.int _) .nil, a1 =>
      replace a1 : Ans K Z E (ItR K Z) (if rgB j = true then .ok (rngD 0 j.toNat) s1 else .un) s1 V1 H1 Q := a1
      by_cases e : rgB j = true
      · rw [if_pos e] at a1
        exact ⟨j, rfl, (rgB_of e).1, (rgB_of e).2, Ans.pure w1 (itR_rng 0 j.toNat) a1⟩
      · rw [if_neg e] at a1
        exact a1.elim
    | [], _, a1 => exact a1.elim
    | .non :: _, _, a1 | .bl _ :: _, _, a1 | .str _ :: _, _, a1 | .obj _ _ :: _, _, a1 | .adr _ :: _, _, a1 | .emp :: _, _, a1 | .tup _ :: _, _, a1 | .lst _ :: _, _, a1 => exact a1.elim
    | .int _ :: _ :: _, _, a1 => exact a1.elim)
theorem ci_rng2 (h : CmpA K Z E ua fa) : CmpI K Z E (iRng2 ua) (rgI rg2F fa) := fun V H σ ρ s Q w p a =>
  h V H σ ρ s _ w p (Ans.bind a fun d s1 v V1 H1 n1 w1 r1 a1 => by
    match d, r1, a1 with
    | [.int i, .int j], .cons (.int _) (.cons (.int _) .nil), a1 =>
      replace a1 : Ans K Z E (ItR K Z) (if (rgB i && rgB j) = true then .ok (rngD i (j - i).toNat) s1 else .un) s1 V1 H1 Q := a1
      by_cases e : (rgB i && rgB j) = true
      · rw [if_pos e] at a1
        have e2 := Bool.and_eq_true_iff.mp e
        have b1 := rgB_of e2.1
        have b2 := rgB_of e2.2
        exact ⟨i, j, rfl, ⟨b1.1, b1.2, b2.1, b2.2⟩, Ans.pure w1 (itR_rng i _) a1⟩
      · rw [if_neg e] at a1
        exact a1.elim
    | [], _, a1 => exact a1.elim
    | [.int _], _, a1 => exact a1.elim
    | .int _ :: .int _ :: _ :: _, _, a1 => exact a1.elim
    | .int _ :: .non :: _, _, a1 | .int _ :: .bl _ :: _, _, a1 | .int _ :: .str _ :: _, _, a1 | .int _ :: .obj _ _ :: _, _, a1 | .int _ :: .adr _ :: _, _, a1 | .int _ :: .emp :: _, _, a1 | .int _ :: .tup _ :: _, _, a1 | .int _ :: .lst _ :: _, _, a1 => exact a1.elim
    | .non :: _, _, a1 | .bl _ :: _, _, a1 | .str _ :: _, _, a1 | .obj _ _ :: _, _, a1 | .adr _ :: _, _, a1 | .emp :: _, _, a1 | .tup _ :: _, _, a1 | .lst _ :: _, _, a1 => exact a1.elim)
end
/-! ### for, while -/
def forK (k : Slots → S → R Fl) (fl : Fl) (s : S) : R Fl := match fl with
  | .nx ρ => k ρ s
  | .ct ρ => k ρ s
  | .bk ρ => .ok (.nx ρ) s
  | .rt d => .ok (.rt d) s
def forL (g : D → Slots → Option Slots) (F : Slots → S → R Fl) : List D → Slots → S → R Fl
  | [], ρ, s => .ok (.nx ρ) s
  | d :: ds, ρ, s => match g d ρ with
    | none => .un
    | some ρ1 => (F ρ1 s).bind (forK fun ρ s => forL g F ds ρ s)
def forS (fi : Slots → S → R (List D)) (g : D → Slots → Option Slots) (F : Slots → S → R Fl) (ρ : Slots) (s : S) : R Fl := (fi ρ s).bind fun ds s => forL g F ds ρ s
def frzS (F : Slots → S → R Fl) (ρ : Slots) (s : S) : R Fl := F (allS ρ) s
def whlL (p : Slots → S → R Bool) (F : Slots → S → R Fl) : Nat → Slots → S → R Fl
  | 0, _, _ => .un
  | n + 1, ρ, s => (p (allS ρ) s).bind fun b s => if b = true then (F ρ s).bind (forK fun ρ s => whlL p F n ρ s) else .ok (.nx ρ) s
def asgS (f : Slots → S → R D) (g : D → Slots → Option Slots) (ρ : Slots) (s : S) : R Fl := (f ρ s).bind fun d s => match g d ρ with
  | some ρ => .ok (.nx ρ) s
  | none => .un
section
variable {K : PySem.W.Frag} {Z : Zn} {E : XK} {t : TS} {F : Slots → S → R Fl} {te : TE} {f : Slots → S → R D} {tt : TT} {p : Slots → S → R Bool} {wi : TI} {fi : Slots → S → R (List D)} {tg : TG} {g : D → Slots → Option Slots} {is : List Nat}
/-- first all that is one's own is known for good -/
theorem cs_frz (h : CmpS K Z E t F) : CmpS K Z E t (frzS F) := fun s0 G0 H0 G H σ ρ s D r a =>
  h s0 G0 H0 _ H σ (allS ρ) s D (r.froz (Nx.refl _ _ _) r.hW) (AnsS.later r.sub a)
theorem cs_asg (h : Cmp K Z E te f) (hg : CmpG tg g is K Z) : CmpS K Z E (tAsg te tg) (asgS f g) := fun s0 G0 H0 G H σ ρ s D r a =>
  h G H σ ρ s _ r.w r.p (AnsS.bindF r a fun d s1 v V1 H1 n1 w1 e a1 => by
    refine hg (fun σ ρ => RepF K Z s0 G0 H0 V1 H1 σ ρ s1) V1 H1 w1.sv (fun σ ρ i v d _ q hd => q.set hd) σ ρ v d _ (r.on n1 w1) e ?_
    cases e1 : g d ρ with
    | none =>
      rw [e1] at a1
      exact a1
    | some ρ1 =>
      rw [e1] at a1
      exact fun σ' q => a1 σ' V1 H1 (Same.refl _) q)
theorem cs_for (hi : CmpI K Z E wi fi) (hg : CmpG tg g is K Z) (hb : CmpS K Z E t F) : CmpS K Z E (tFor wi tg t) (forS fi g F) := fun s0 G0 H0 G H σ ρ s D r a => by
  refine hi G H σ ρ s _ r.w r.p (AnsS.bindF r a fun ds s1 J V1 H1 n1 w1 it a1 => ?_)
  refine ⟨fun i m σ H => m = ds.length - i ∧ i ≤ ds.length ∧ ∃ G2 ρ2 s2, RepF K Z s0 G0 H0 G2 H σ ρ2 s2 ∧ Same V1 G2 ∧ AnsS K Z E (forL g F (ds.drop i) ρ2 s2) s0 G0 H0 G2 D, ⟨ds.length, by simp, Nat.zero_le _, V1, ρ, s1, r.on n1 w1, Same.refl _, a1⟩, ?_⟩
  rintro i m σ2 H2 ⟨rfl, hi2, G2, ρ2, s2, r2, e2, a2⟩
  by_cases l : i < ds.length
  · refine .inr ⟨it.go i G2 H2 e2 r2.w.sv l, fun σ3 H3 => ∃ G3 ρ3 s3, RepF K Z s0 G0 H0 G3 H3 σ3 ρ3 s3 ∧ Same V1 G3 ∧ AnsS K Z E (forL g F (ds.drop (i + 1)) ρ3 s3) s0 G0 H0 G3 D, fun σ3 H3 q => ⟨ds.length - (i + 1), by omega, rfl, l, q⟩, fun x H3 y => ?_⟩
    obtain ⟨d, ed, y⟩ := it.yld i G2 H2 x H3 e2 r2.w.sv l y
    have dd : ds.drop i = d :: ds.drop (i + 1) := by
      rw [List.drop_eq_getElem_cons l]
      rw [List.getElem?_eq_getElem l] at ed
      rw [Option.some.inj ed]
    rw [dd] at a2
    have go : ∀ G3, Same G2 G3 → RepF K Z s0 G0 H0 G3 H3 σ2 ρ2 s2 → Dv K Z G3 x d → tg x σ2 H3 fun σ4 H4 => t { D with nx := fun σ3 H3 => ∃ G3 ρ3 s3, RepF K Z s0 G0 H0 G3 H3 σ3 ρ3 s3 ∧ Same V1 G3 ∧ AnsS K Z E (forL g F (ds.drop (i + 1)) ρ3 s3) s0 G0 H0 G3 D, ct := fun σ3 H3 => ∃ G3 ρ3 s3, RepF K Z s0 G0 H0 G3 H3 σ3 ρ3 s3 ∧ Same V1 G3 ∧ AnsS K Z E (forL g F (ds.drop (i + 1)) ρ3 s3) s0 G0 H0 G3 D, bk := D.nx } σ4 H4 := by
      intro G3 e3 r3 hd
      refine hg (fun σ ρ => RepF K Z s0 G0 H0 G3 H3 σ ρ s2) G3 H3 r3.w.sv (fun σ ρ i v d _ q hd => q.set hd) σ2 ρ2 x d _ r3 hd ?_
      have a3 := AnsS.later e3 a2
      unfold forL at a3
      cases eg : g d ρ2 with
      | none =>
        rw [eg] at a3
        exact a3
      | some ρ4 =>
        rw [eg] at a3
        refine fun σ4 r4 => hb s0 G0 H0 G3 H3 σ4 ρ4 s2 _ r4 ?_
        replace a3 : AnsS K Z E ((F ρ4 s2).bind (forK fun ρ s => forL g F (ds.drop (i + 1)) ρ s)) s0 G0 H0 G3 D := a3
        refine AnsS.bindS a3 fun fl s5 a3 => ?_
        cases fl with
        | nx ρ5 => exact fun σ5 G5 H5 q r5 => ⟨G5, ρ5, s5, r5, (e2.trans e3).trans q, AnsS.later q a3⟩
        | ct ρ5 => exact fun σ5 G5 H5 q r5 => ⟨G5, ρ5, s5, r5, (e2.trans e3).trans q, AnsS.later q a3⟩
        | bk ρ5 => exact a3
        | rt d => exact a3
    rcases y with ⟨rfl, hd⟩ | ⟨T, xs, rfl, nT, rfl, hd⟩
    · exact go G2 (Same.refl _) r2 hd
    · exact go _ (Same.new (r2.w.sv.free nT)) (r2.on (Nx.new r2.w nT) (r2.w.new nT fun _ z => by cases z)) hd
  · have e : i = ds.length := by omega
    subst e
    rw [List.drop_length] at a2
    exact .inl ⟨it.stop G2 H2 e2 r2.w.sv, a2 σ2 G2 H2 (Same.refl _) r2⟩
theorem cs_while (n : Nat) (hc : CmpT K Z E tt p) (hb : CmpS K Z E t F) : CmpS K Z E (tWhile tt t) (whlL p F n) := fun s0 G0 H0 G H σ ρ s D r a => by
  refine ⟨fun m σ H => ∃ G2 ρ2 s2, RepF K Z s0 G0 H0 G2 H σ ρ2 s2 ∧ AnsS K Z E (whlL p F m ρ2 s2) s0 G0 H0 G2 D, ⟨n, G, ρ, s, r, a⟩, ?_⟩
  rintro m σ2 H2 ⟨G2, ρ2, s2, r2, a2⟩
  cases m with
  | zero => exact a2.elim
  | succ m =>
    unfold whlL at a2
    refine hc _ H2 σ2 (allS ρ2) s2 _ r2.hW r2.hP (AnsS.bindH r2 a2 fun b s3 c V3 H3 n3 w3 e a3 => ?_)
    subst e
    by_cases z : c = true
    · rw [if_pos z] at a3 ⊢
      refine ⟨fun σ H => ∃ G2 ρ2 s2, RepF K Z s0 G0 H0 G2 H σ ρ2 s2 ∧ AnsS K Z E (whlL p F m ρ2 s2) s0 G0 H0 G2 D, fun σ' H' q => ⟨m, by omega, q⟩, ?_⟩
      refine hb s0 G0 H0 G2 H3 σ2 ρ2 s3 _ (r2.back n3 w3) ?_
      refine AnsS.bindS a3 fun fl s5 a3 => ?_
      cases fl with
      | nx ρ5 => exact fun σ5 G5 H5 q r5 => ⟨G5, ρ5, s5, r5, AnsS.later q a3⟩
      | ct ρ5 => exact fun σ5 G5 H5 q r5 => ⟨G5, ρ5, s5, r5, AnsS.later q a3⟩
      | bk ρ5 => exact a3
      | rt d => exact a3
    · rw [if_neg z] at a3 ⊢
      exact a3 σ2 G2 H3 (Same.refl _) (r2.back n3 w3)
end
end Pp

set_option maxHeartbeats 1000000
/-! Pp4: new lists, comprehensions. -/
namespace Pp
open PySem PySem.Spec PyProof.Rows L2 Pg Pf LamX
def AnsL (K : PySem.W.Frag) (Z : Zn) (E : XK) (r : R (List D)) (s : S) (V H : Hp) (Q : VK) : Prop := match r with
  | .ok ds s' => ∀ p vs V' H', Nx s s' V H V' H' → Wd Z.T V' H' s' → Fre H p → V' p = none → ¬ inS s' p → H' p = some (.lst vs) → DvA K Z V' vs ds → Q (.ref p) H'
  | .ex e s' => ∀ cls dd V' H', Nx s s' V H V' H' → Wd Z.T V' H' s' → ExR K Z V' cls dd e → E cls dd H'
  | .un => False
  | .dr t k => ∀ i, 0 ≤ i → i < t → AnsL K Z E (k i) s V H Q
  | .an P k => ∀ d s1, P d s1 → AnsL K Z E (k d s1) s V H Q
/-- t makes a new list -/
def CmpL (K : PySem.W.Frag) (Z : Zn) (E : XK) (t : TE) (f : Slots → S → R (List D)) : Prop := ∀ V H σ ρ s Q, Wd Z.T V H s → Rep K Z V H σ ρ s → AnsL K Z E (f ρ s) s V H Q → t σ H Q
def mkL (f : Slots → S → R (List D)) (ρ : Slots) (s : S) : R D := (f ρ s).bind fun ds s => .ok (.lst ds) s
def setW (i : Nat) (f : Slots → S → R (List D)) (ρ : Slots) (s : S) : R Fl := (f ρ s).bind fun ds s => .ok (.nx (ρ.set i (.ow (.ls ds)))) s
def litL (f : Slots → S → R (List D)) (ρ : Slots) (s : S) : R (List D) := (f ρ s).bind fun ds s => if fits ds.length = true then .ok ds s else .un
section
variable {K : PySem.W.Frag} {Z : Zn} {E : XK} {te : TE} {f : Slots → S → R (List D)} {ua : TA} {s s' : S} {V H V' H' : Hp}
theorem AnsL.of {r : R (List D)} {Q : VK} (a : Ans K Z E (Dv K Z) (r.bind fun ds s => .ok (.lst ds) s) s V H Q) : AnsL K Z E r s V H Q := by
  induction r with
  | ok ds s1 => exact fun q vs V1 H1 n w1 h0 v0 i h1 hs => a (.ref q) (upd V1 q (.lst vs)) H1 (n.freeze h0 v0) (w1.freeze h1 (fun _ z => by cases z) i) (.lst upd_same (DvA.mono (Same.new v0) _ _ hs))
  | ex e s1 => exact a
  | un => exact a
  | dr t k ih => exact fun i h0 h1 => ih i (a i h0 h1)
  | an P k ih => exact fun d s2 hp => ih d s2 (a d s2 hp)
theorem c_mkL (h : CmpL K Z E te f) : Cmp K Z E te (mkL f) := fun V H σ ρ s Q w p a => h V H σ ρ s Q w p (AnsL.of a)
theorem AnsL.ofS {r : R (List D)} {i : Nat} {s0 : S} {G0 H0 G : Hp} {σ : L2.St} {ρ : Slots} {D : Ends} (F : RepF K Z s0 G0 H0 G H σ ρ s) (a : AnsS K Z E (r.bind fun ds s => .ok (.nx (ρ.set i (.ow (.ls ds)))) s) s0 G0 H0 G D) : AnsL K Z E r s G H (fun v H' => gName i v σ H' D.nx) := by
  induction r with
  | ok ds s1 => exact fun q vs V1 H1 n w1 h0 v0 is h1 hs => a _ V1 H1 n.g ((F.on n w1).own h1 (.ls hs) v0 is (F.nx.k q h0) fun j o ej ef => (F.fr h0 ej ef).elim)
  | ex e s1 => exact fun cls dd V2 H2 n w q => a cls dd V2 H2 (F.nx.trans n) w q
  | un => exact a
  | dr t k ih => exact fun i h0 h1 => ih i (a i h0 h1)
  | an P k ih => exact fun d s2 hp => ih d s2 (a d s2 hp)
theorem cs_setW (i : Nat) (h : CmpL K Z E te f) : CmpS K Z E (tAsg te (gName i)) (setW i f) := fun s0 G0 H0 G H σ ρ s D r a => h G H σ ρ s _ r.w r.p (AnsL.ofS r a)
theorem AnsL.new {ds : List D} {vs : List L2.V} {Q : VK} (w : Wd Z.T V H s) (hs : DvA K Z V vs ds) (a : AnsL K Z E (.ok ds s) s V H Q) : ∀ p, H p = none → Q (.ref p) (upd H p (.lst vs)) := fun p hp =>
  a p vs V _ (Nx.up hp) (w.up hp) (.inl hp) (w.sv.free hp) (fun y => w.mr.inH y hp) upd_same hs
theorem AnsL.later {r : R (List D)} {Q : VK} (x : Nx s s' V H V' H') (h : AnsL K Z E r s V H Q) : AnsL K Z E r s' V' H' Q := by
  induction r with
  | ok d s2 => exact fun q vs V2 H2 n w h0 v0 i h1 hs => h q vs V2 H2 (x.trans n) w (x.k q h0) v0 i h1 hs
  | ex e s2 => exact fun cls dd V2 H2 n w q => h cls dd V2 H2 (x.trans n) w q
  | un => exact h
  | dr t k ih => exact fun i h0 h1 => ih i (h i h0 h1)
  | an P k ih => exact fun d s2 hp => ih d s2 (h d s2 hp)
theorem AnsL.bind {α β : Type} {Rl : Hp → β → α → Prop} {r : R α} {k : α → S → R (List D)} {Q : VK} {Q1 : β → Hp → Prop} (h : AnsL K Z E (r.bind k) s V H Q)
    (c : ∀ d s' v V' H', Nx s s' V H V' H' → Wd Z.T V' H' s' → Rl V' v d → AnsL K Z E (k d s') s' V' H' Q → Q1 v H') : Ans K Z E Rl r s V H Q1 := by
  induction r with
  | ok d s2 => exact fun v V2 H2 n w q => c d s2 v V2 H2 n w q (AnsL.later n h)
  | ex e s2 => exact h
  | un => exact h
  | dr t k ih => exact fun i h0 h1 => ih i (h i h0 h1)
  | an P k ih => exact fun d s2 hp => ih d s2 (h d s2 hp)
/-- .. later on, what is wanted told from the beginning -/
theorem AnsL.bindAt {α β : Type} {Rl : Hp → β → α → Prop} {r : R α} {k : α → S → R (List D)} {Q : VK} {Q1 : β → Hp → Prop} (n : Nx s s' V H V' H') (h : AnsL K Z E (r.bind k) s V H Q)
    (c : ∀ d s2 v V2 H2, Nx s' s2 V' H' V2 H2 → Wd Z.T V2 H2 s2 → Rl V2 v d → AnsL K Z E (k d s2) s V H Q → Q1 v H2) : Ans K Z E Rl r s' V' H' Q1 := by
  induction r with
  | ok d s2 => exact fun v V2 H2 m w q => c d s2 v V2 H2 m w q h
  | ex e s2 => exact fun cls dd V2 H2 m w q => h cls dd V2 H2 (n.trans m) w q
  | un => exact h
  | dr t k ih => exact fun i h0 h1 => ih i (h i h0 h1)
  | an P k ih => exact fun d s2 hp => ih d s2 (h d s2 hp)
theorem AnsL.bindL {r : R (List D)} {k : List D → S → R (List D)} {Q Q1 : VK} (h : AnsL K Z E (r.bind k) s V H Q)
    (c : ∀ ds s' p vs V' H', Nx s s' V H V' H' → Wd Z.T V' H' s' → Fre H p → V' p = none → ¬ inS s' p → H' p = some (.lst vs) → DvA K Z V' vs ds → AnsL K Z E (k ds s') s' V' H' Q → Q1 (.ref p) H') : AnsL K Z E r s V H Q1 := by
  induction r with
  | ok d s2 => exact fun p vs V2 H2 n w h0 v0 i h1 hs => c d s2 p vs V2 H2 n w h0 v0 i h1 hs (AnsL.later n h)
  | ex e s2 => exact h
  | un => exact h
  | dr t k ih => exact fun i h0 h1 => ih i (h i h0 h1)
  | an P k ih => exact fun d s2 hp => ih d s2 (h d s2 hp)
theorem cl_lit (h : CmpA K Z E ua f) : CmpL K Z E (tLst ua) (litL f) := fun V H σ ρ s Q w p a =>
  h V H σ ρ s _ w p (AnsL.bind a fun ds s1 vs V1 H1 n1 w1 e a1 => by
    by_cases z : fits ds.length = true
    · rw [if_pos z] at a1
      exact ⟨by rw [e.len]; exact fits_le z, AnsL.new w1 e a1⟩
    · rw [if_neg z] at a1
      exact a1.elim)
/-- [..] * n -/
def repL (f : Slots → S → R (List D)) (g : Slots → S → R D) (ρ : Slots) (s : S) : R (List D) := (f ρ s).bind fun ds s => (g ρ s).bind fun y s => match y with
  | .int k => if (decide (k ≤ 1000) && fits (ds.length * k.toNat) && decide (-(2 ^ 63) ≤ k)) = true then .ok (List.replicate k.toNat ds).flatten s else .un
  | _ => .un
theorem DvA.rep {G : Hp} {vs : List L2.V} {ds : List D} (h : DvA K Z G vs ds) : ∀ n, DvA K Z G (List.replicate n vs).flatten (List.replicate n ds).flatten
  | 0 => .nil
  | n + 1 => by
    rw [List.replicate_succ, List.replicate_succ, List.flatten_cons, List.flatten_cons]
    exact h.app (DvA.rep h n)
theorem cl_rep {tb : TE} {g : Slots → S → R D} (h : CmpL K Z E te f) (hb : Cmp K Z E tb g) : CmpL K Z E (tOp rRep te tb) (repL f g) := fun V H σ ρ s Q w p a =>
  h V H σ ρ s _ w p (AnsL.bindL a fun ds s1 q vs V1 H1 n w1 h0 v0 i h1 hs a1 => hb V1 H1 σ ρ s1 _ w1 (p.later n) (AnsL.bind a1 fun d s2 v V2 H2 n2 w2 e2 a2 => by
    cases e2 with
    | int k =>
      replace a2 : AnsL K Z E (if (decide (k ≤ 1000) && fits (ds.length * k.toNat) && decide (-(2 ^ 63) ≤ k)) = true then .ok (List.replicate k.toNat ds).flatten s2 else .un) s2 V2 H2 Q := a2
      by_cases z : (decide (k ≤ 1000) && fits (ds.length * k.toNat) && decide (-(2 ^ 63) ≤ k)) = true
      · rw [if_pos z] at a2
        have z1 := Bool.and_eq_true_iff.mp z
        have z2 := Bool.and_eq_true_iff.mp z1.1
        have k1 := of_decide_eq_true z2.1
        have k2 := of_decide_eq_true z1.2
        exact ⟨q, k, vs, rfl, rfl, n2.h q _ h1 (fun _ z => by cases z) i, k2, by omega, by rw [hs.len]; exact fits_le z2.2, AnsL.new w2 ((DvA.mono n2.g _ _ hs).rep _) a2⟩
      · rw [if_neg z] at a2
        exact a2.elim
    | _ => exact a2.elim))
end
/-! ### comprehensions -/
def noex {α : Type} : R α → R α
  | .ok a s => .ok a s
  | .ex _ _ => .un
  | .un => .un
  | .dr t k => .dr t fun i => noex (k i)
  | .an P k => .an P fun d s => noex (k d s)
def wipeS (ρ : Slots) : List Nat → Slots
  | [] => ρ
  | v :: vs => (wipeS ρ vs).set v .no
def lcL (g : D → Slots → Option Slots) (p : Slots → S → R Bool) (f : Slots → S → R D) (ρ : Slots) : List D → S → R (List D)
  | [], s => .ok [] s
  | d :: ds, s => match g d ρ with
    | none => .un
    | some ρ1 => (noex (p ρ1 s)).bind fun b s => if b = true then (noex (f ρ1 s)).bind fun y s => (lcL g p f ρ ds s).bind fun ys s => .ok (y :: ys) s else lcL g p f ρ ds s
def lcF (fi : Slots → S → R (List D)) (g : D → Slots → Option Slots) (p : Slots → S → R Bool) (f : Slots → S → R D) (vs : List Nat) (ρ : Slots) (s : S) : R (List D) := (fi ρ s).bind fun ds s => if fits ds.length = true then lcL g p f (wipeS ρ vs) ds s else .un
def yesT (_ : Slots) (s : S) : R Bool := .ok true s
theorem c_yes {K : PySem.W.Frag} {Z : Zn} {E : XK} : CmpT K Z E tYes yesT := fun V H σ ρ s Q w p a => Ans.pure w rfl a
theorem wipe_set {σ : L2.St} {i : Nat} {x : Option V} : ∀ {vs : List Nat}, i ∈ vs → wipe (σ.set i x) vs = wipe σ vs
  | v :: vs, h => by
    unfold wipe
    by_cases z : i ∈ vs
    · rw [wipe_set z]
    · have e : i = v := by
        rcases List.mem_cons.mp h with e | e
        · exact e
        · exact absurd e z
      subst e
      have o : ∀ {ws : List Nat}, i ∉ ws → wipe (σ.set i x) ws = (wipe σ ws).set i x := by
        intro ws
        induction ws with
        | nil => exact fun _ => rfl
        | cons w ws ih =>
          intro hn
          unfold wipe
          rw [ih fun m => hn (List.mem_cons_of_mem _ m), List.set_comm _ _ (fun e => hn (by rw [e]; exact List.mem_cons_self))]
      rw [o z, List.set_set]
theorem wipe_wipe (σ : L2.St) (vs : List Nat) : ∀ ws : List Nat, (∀ i ∈ ws, i ∈ vs) → wipe (wipe σ ws) vs = wipe σ vs
  | [], _ => rfl
  | w :: ws, h => by
    show wipe ((wipe σ ws).set w none) vs = _
    rw [wipe_set (h w List.mem_cons_self), wipe_wipe σ vs ws fun i hi => h i (List.mem_cons_of_mem _ hi)]
section
variable {K : PySem.W.Frag} {Z : Zn} {E : XK} {s s' : S} {V H V' H' : Hp} {σ : L2.St} {ρ : Slots}
theorem Rep.set (p : Rep K Z V H σ ρ s) {i : Nat} {v : L2.V} {d : D} (h : Dv K Z V v d) : Rep K Z V H (σ.set i (some v)) (ρ.set i (.fz d)) s := by
  have l := p.ln
  have old : ∀ {j : Nat} {x : Sl}, (ρ.set i (.fz d))[j]? = some x → (j = i ∧ x = .fz d ∧ i < ρ.length) ∨ (j ≠ i ∧ ρ[j]? = some x) := fun {j x} e => by
    by_cases z : j = i
    · subst z
      by_cases l : j < ρ.length
      · rw [List.getElem?_set_self l] at e
        exact .inl ⟨rfl, (Option.some.inj e).symm, l⟩
      · rw [List.getElem?_eq_none (by rw [List.length_set]; omega)] at e
        cases e
    · rw [List.getElem?_set_ne (Ne.symm z)] at e
      exact .inr ⟨z, e⟩
  have σo : ∀ {j : Nat}, j ≠ i → (σ.set i (some v))[j]? = σ[j]? := fun {j} z => List.getElem?_set_ne (Ne.symm z)
  refine ⟨fun j x e => ?_, fun j o e => ?_, by rw [List.length_set, List.length_set]; exact l⟩
  · rcases old e with ⟨rfl, y, l2⟩ | ⟨z, e⟩
    · cases y
      exact ⟨v, List.getElem?_set_self (by rw [l]; exact l2), h⟩
    · rw [σo z]
      exact p.fz j x e
  · rcases old e with ⟨rfl, y, l2⟩ | ⟨z, e⟩
    · cases y
    · rw [σo z]
      exact p.ow j o e
theorem Rep.wipe (p : Rep K Z V H σ ρ s) : ∀ vs : List Nat, Rep K Z V H (L2.wipe σ vs) (wipeS ρ vs) s
  | [] => p
  | v :: vs => by
    have q := Rep.wipe p vs
    have old : ∀ {j : Nat} {x : Sl}, ((wipeS ρ vs).set v .no)[j]? = some x → x ≠ .no → j ≠ v ∧ (wipeS ρ vs)[j]? = some x := fun {j x} e n => by
      by_cases z : j = v
      · subst z
        by_cases l : j < (wipeS ρ vs).length
        · rw [List.getElem?_set_self l] at e
          exact absurd (Option.some.inj e).symm n
        · rw [List.getElem?_eq_none (by rw [List.length_set]; omega)] at e
          cases e
      · rw [List.getElem?_set_ne (Ne.symm z)] at e
        exact ⟨z, e⟩
    refine ⟨fun j x e => ?_, fun j o e => ?_, ?_⟩
    · obtain ⟨z, e⟩ := old e (by simp)
      show ∃ v_1, ((L2.wipe σ vs).set v none)[j]? = some (some v_1) ∧ _
      rw [List.getElem?_set_ne (Ne.symm z)]
      exact q.fz j x e
    · obtain ⟨z, e⟩ := old e (by simp)
      show ∃ a u, ((L2.wipe σ vs).set v none)[j]? = some (some (.ref a)) ∧ _
      rw [List.getElem?_set_ne (Ne.symm z)]
      exact q.ow j o e
    · show ((L2.wipe σ vs).set v none).length = ((wipeS ρ vs).set v .no).length
      rw [List.length_set, List.length_set]
      exact q.ln
theorem Ans.noex {α β : Type} {Rl : Hp → β → α → Prop} {r : R α} {Q : β → Hp → Prop} (h : Ans K Z E Rl (Pp.noex r) s V H Q) {E' : XK} : Ans K Z E' Rl r s V H Q := by
  induction r with
  | ok d s2 => exact h
  | ex e s2 => exact h.elim
  | un => exact h
  | dr t k ih => exact fun i h0 h1 => ih i (h i h0 h1)
  | an P k ih => exact fun d s2 hp => ih d s2 (h d s2 hp)
theorem AnsL.app {r : R (List D)} {es : List D} {Q : VK} (h : AnsL K Z E r s V H Q) (e : es = []) : AnsL K Z E (r.bind fun ys s => .ok (es ++ ys) s) s V H Q := by
  subst e
  induction r with
  | ok d s2 => exact h
  | ex e s2 => exact h
  | un => exact h
  | dr t k ih => exact fun i h0 h1 => ih i (h i h0 h1)
  | an P k ih => exact fun d s2 hp => ih d s2 (h d s2 hp)
theorem bind_assoc' {α β γ : Type} (r : R α) (f : α → S → R β) (g : β → S → R γ) : (r.bind f).bind g = r.bind fun a s => (f a s).bind g := by
  induction r with
  | ok d s2 => rfl
  | ex e s2 => rfl
  | un => rfl
  | dr t k ih =>
    show R.dr t _ = R.dr t _
    congr 1
    funext i
    exact ih i
  | an P k ih =>
    show R.an P _ = R.an P _
    congr 1
    funext d s2
    exact ih d s2
variable {wi : TI} {g : TG} {gg : D → Slots → Option Slots} {is vs : List Nat} {tt : TT} {p : Slots → S → R Bool} {te : TE} {f : Slots → S → R D} {fi : Slots → S → R (List D)}
theorem cl_lc (hi : CmpI K Z E wi fi) (hg : CmpG g gg is K Z) (his : ∀ i ∈ is, i ∈ vs) (hp : CmpT K Z E0 tt p) (hf : Cmp K Z E0 te f) : CmpL K Z E (tLc wi g tt te vs) (lcF fi gg p f vs) := by
  intro V H σ ρ s Q w q a
  refine hi V H σ ρ s _ w q (AnsL.bind a fun ds s1 J V1 H1 n1 w1 it a1 => ?_)
  by_cases fz : fits ds.length = true
  case neg =>
    rw [if_neg fz] at a1
    exact a1.elim
  rw [if_pos fz] at a1
  intro L hL
  have gL : V1 L = none := w1.sv.free hL
  have iL : ¬ inS s1 L := fun y => w1.mr.inH y hL
  have q1 := q.later n1
  -- behind i turns
  refine ⟨fun i m H2 => m = ds.length - i ∧ i ≤ ds.length ∧ ∃ V2 s2 acc es, Nx s1 s2 V1 H1 V2 H2 ∧ Wd Z.T V2 H2 s2 ∧ V2 L = none ∧ H2 L = some (.lst acc) ∧ DvA K Z V2 acc es ∧ es.length ≤ i ∧
    AnsL K Z E ((lcL gg p f (wipeS ρ vs) (ds.drop i) s2).bind fun ys s => .ok (es ++ ys) s) s1 V1 H1 Q, ⟨ds.length, by simp, Nat.zero_le _, V1, s1, [], [], Nx.up hL, w1.up hL, gL, upd_same, .nil, Nat.zero_le _, ?_⟩, ?_⟩
  · rw [List.drop_zero]
    exact AnsL.app a1 rfl
  rintro i m H2 ⟨rfl, hi2, V2, s2, acc, es, n2, w2, v2, h2, d2, l2, a2⟩
  by_cases l : i < ds.length
  · refine .inr ⟨it.go i V2 H2 n2.g w2.sv l, fun H3 => ∃ V2 s2 acc es, Nx s1 s2 V1 H1 V2 H3 ∧ Wd Z.T V2 H3 s2 ∧ V2 L = none ∧ H3 L = some (.lst acc) ∧ DvA K Z V2 acc es ∧ es.length ≤ i + 1 ∧
      AnsL K Z E ((lcL gg p f (wipeS ρ vs) (ds.drop (i + 1)) s2).bind fun ys s => .ok (es ++ ys) s) s1 V1 H1 Q, fun H3 y => ⟨ds.length - (i + 1), by omega, rfl, l, y⟩, fun x H3 y => ?_⟩
    obtain ⟨d, ed, y⟩ := it.yld i V2 H2 x H3 n2.g w2.sv l y
    have dd : ds.drop i = d :: ds.drop (i + 1) := by
      rw [List.drop_eq_getElem_cons l]
      rw [List.getElem?_eq_getElem l] at ed
      rw [Option.some.inj ed]
    rw [dd] at a2
    have iL2 : ¬ inS s2 L := by rw [inS_of n2.a]; exact iL
    -- the turn, from any view that knows the item
    have go : ∀ V3, Nx s2 s2 V2 H2 V3 H3 → Wd Z.T V3 H3 s2 → Dv K Z V3 x d → V3 L = none → H3 L = some (.lst acc) → g x (wipe σ vs) H3 fun σ2 H2 => wipe σ2 vs = wipe σ vs ∧ tt σ2 H2 fun b H3 =>
        if b = true then te σ2 H3 fun y H4 => ∃ acc, H4 L = some (.lst acc) ∧ acc.length < sizeLine ∧ (∃ V2 s2 acc' es, Nx s1 s2 V1 H1 V2 (upd H4 L (.lst (acc ++ [y]))) ∧ Wd Z.T V2 (upd H4 L (.lst (acc ++ [y]))) s2 ∧ V2 L = none ∧ (upd H4 L (.lst (acc ++ [y]))) L = some (.lst acc') ∧ DvA K Z V2 acc' es ∧ es.length ≤ i + 1 ∧
          AnsL K Z E ((lcL gg p f (wipeS ρ vs) (ds.drop (i + 1)) s2).bind fun ys s => .ok (es ++ ys) s) s1 V1 H1 Q) else (∃ V2 s2 acc es, Nx s1 s2 V1 H1 V2 H3 ∧ Wd Z.T V2 H3 s2 ∧ V2 L = none ∧ H3 L = some (.lst acc) ∧ DvA K Z V2 acc es ∧ es.length ≤ i + 1 ∧
          AnsL K Z E ((lcL gg p f (wipeS ρ vs) (ds.drop (i + 1)) s2).bind fun ys s => .ok (es ++ ys) s) s1 V1 H1 Q) := by
      intro V3 n3 w3 hd v3 h3
      have q3 := (q1.later n2).later n3
      have qw := q3.wipe vs
      refine hg (fun σ' ρ' => Rep K Z V3 H3 σ' ρ' s2 ∧ wipe σ' vs = wipe σ vs) V3 H3 w3.sv (fun σ' ρ' j v d' hj ⟨y1, y2⟩ hd' => ⟨y1.set hd', by rw [wipe_set (his j hj)]; exact y2⟩) (wipe σ vs) (wipeS ρ vs) x d _ ⟨qw, wipe_wipe σ vs vs fun _ h => h⟩ hd ?_
      unfold lcL at a2
      cases eg : gg d (wipeS ρ vs) with
      | none =>
        rw [eg] at a2
        exact a2
      | some ρ4 =>
        rw [eg] at a2
        intro σ4 ⟨q4, e4⟩
        refine ⟨e4, ?_⟩
        replace a2 : AnsL K Z E (((noex (p ρ4 s2)).bind fun b s => if b = true then (noex (f ρ4 s)).bind fun y s => (lcL gg p f (wipeS ρ vs) (ds.drop (i + 1)) s).bind fun ys s => .ok (y :: ys) s else lcL gg p f (wipeS ρ vs) (ds.drop (i + 1)) s).bind fun ys s => .ok (es ++ ys) s) s1 V1 H1 Q := a2
        rw [bind_assoc'] at a2
        refine hp V3 H3 σ4 ρ4 s2 _ w3 q4 (Ans.noex (AnsL.bindAt (n2.trans n3) a2 fun b s5 c V5 H5 n5 w5 ec a2 => ?_))
        subst ec
        have n25 := n3.trans n5
        have h5 := n5.h L _ h3 (fun _ z => by cases z) iL2
        have v5 := n5.not v3 h3 (fun _ z => by cases z)
        by_cases hb : c = true
        · rw [if_pos hb] at a2 ⊢
          rw [bind_assoc'] at a2
          refine hf V5 H5 σ4 ρ4 s5 _ w5 (q4.later n5) (Ans.noex (AnsL.bindAt (n2.trans n25) a2 fun yd s6 yv V6 H6 n6 w6 hy a2 => ?_))
          have iL5 : ¬ inS s5 L := by rw [inS_of n5.a]; exact iL2
          have h6 := n6.h L _ h5 (fun _ z => by cases z) iL5
          have v6 := n6.not v5 h5 (fun _ z => by cases z)
          have iL6 : ¬ inS s6 L := by rw [inS_of n6.a]; exact iL5
          have n16 := (n2.trans n25).trans n6
          refine ⟨acc, h6, ?_, V6, s6, _, es ++ [yd], n16.mut (.inl hL), w6.mut h6 v6 iL6 (fun _ z => by cases z) (fun _ z => by cases z), v6, upd_same, (DvA.mono (n25.g.trans n6.g) _ _ d2).snoc hy, by rw [List.length_append]; show es.length + 1 ≤ i + 1; omega, ?_⟩
          · rw [d2.len]
            exact Nat.lt_of_lt_of_le (Nat.lt_of_le_of_lt l2 l) (fits_le fz)
          · rw [bind_assoc'] at a2
            have e9 : (fun (a : List D) (s : S) => (R.ok (yd :: a) s).bind fun ys s => R.ok (es ++ ys) s) = fun (ys : List D) (s : S) => R.ok ((es ++ [yd]) ++ ys) s := by
              funext ys s
              show R.ok (es ++ yd :: ys) s = _
              rw [show es ++ yd :: ys = (es ++ [yd]) ++ ys by simp]
            rw [e9] at a2
            exact a2
        · rw [if_neg hb] at a2 ⊢
          exact ⟨V5, s5, acc, es, n2.trans n25, w5, v5, h5, DvA.mono n25.g _ _ d2, by omega, a2⟩
    rcases y with ⟨rfl, hd⟩ | ⟨T, xs, rfl, nT, rfl, hd⟩
    · exact go V2 (Nx.refl _ _ _) w2 hd v2 h2
    · have ne : L ≠ T := ne_of_none h2 nT
      exact go _ (Nx.new w2 nT) (w2.new nT fun _ z => by cases z) hd (by rw [upd_ne ne]; exact v2) (by rw [upd_ne ne]; exact h2)
  · have e : i = ds.length := by omega
    subst e
    rw [List.drop_length] at a2
    refine .inl ⟨it.stop V2 H2 n2.g w2.sv, ?_⟩
    have a3 : AnsL K Z E (.ok (es ++ []) s2) s1 V1 H1 Q := a2
    rw [List.append_nil] at a3
    exact a3 L acc V2 H2 n2 w2 (.inl hL) v2 (by rw [inS_of n2.a]; exact iL) h2 d2
end
end Pp

set_option maxHeartbeats 1000000
/-! Pp5: defs, calls, methods, attributes, properties, instances made. -/
namespace Pp
open PySem PySem.Spec PyProof.Rows L2 Pg Pf LamX
def st0 (n : Nat) (ds : List D) : Slots := ds.map Sl.fz ++ List.replicate (n - ds.length) Sl.no
def endF (fl : Fl) (s : S) : R D := match fl with
  | .rt d => .ok d s
  | .nx _ => .ok .non s
  | _ => .un
def runS (F : Slots → S → R Fl) (n : Nat) (ds : List D) (s : S) : R D := (F (st0 n ds) s).bind endF
/-- a def that computes F -/
def spD (K : PySem.W.Frag) (Z : Zn) (n : Nat) (F : List D → S → R D) : Sp := fun vs H Q E => vs.length = n ∧ ∃ V ds s, Wd Z.T V H s ∧ DvA K Z V vs ds ∧ Ans K Z E (Dv K Z) (F ds s) s V H Q
section
variable {K : PySem.W.Frag} {Z : Zn} {n : Nat} {F F' : List D → S → R D} {vs : List V} {H V : Hp} {s : S} {ds : List D}
/-- F' says what F does, or nothing -/
def Le (F' F : List D → S → R D) : Prop := ∀ ds s, F' ds s = .un ∨ F ds s = F' ds s
theorem spD_imp (h : Le F' F) : ∀ vs H Q E, spD K Z n F' vs H Q E → spD K Z n F vs H Q E := by
  rintro vs H Q E ⟨l, V, ds, s, w, r, a⟩
  refine ⟨l, V, ds, s, w, r, ?_⟩
  rcases h ds s with e | e
  · rw [e] at a
    exact a.elim
  · rw [e]
    exact a
theorem start_rep {N : List Str} {vs : List L2.V} (w : Wd Z.T V H s) (r : DvA K Z V vs ds) (hl : vs.length ≤ N.length) : RepF K Z s V H V H (L2.start N vs) (st0 N.length ds) s := by
  have len : (L2.start N vs).length = (st0 N.length ds).length := by
    unfold L2.start st0
    rw [List.length_append, List.length_append, List.length_map, List.length_map, List.length_replicate, List.length_replicate, r.len]
  have no : ∀ (i : Nat) (o : OD), (st0 N.length ds)[i]? ≠ some (.ow o) := fun i o e => by
    have m := List.mem_of_getElem? e
    unfold st0 at m
    rcases List.mem_append.mp m with m | m
    · obtain ⟨d, _, z⟩ := List.mem_map.mp m
      cases z
    · cases (List.mem_replicate.mp m).2
  refine ⟨Nx.refl _ _ _, w, ⟨fun i d e => ?_, fun i o e => (no i o e).elim, len⟩, fun i o a e _ => (no i o e).elim, fun i j o u a _ e _ _ _ => (no i o e).elim, len⟩
  have hd : ds[i]? = some d := by
    unfold st0 at e
    by_cases l : i < (ds.map Sl.fz).length
    · rw [List.getElem?_append_left l, List.getElem?_map] at e
      cases q : ds[i]? with
      | none =>
        rw [q] at e
        cases e
      | some y =>
        rw [q] at e
        cases e
        rfl
    · have m := List.mem_of_getElem? (by rw [List.getElem?_append_right (by omega)] at e; exact e)
      cases (List.mem_replicate.mp m).2
  obtain ⟨v, h1, h2⟩ := r.at hd
  refine ⟨v, ?_, h2⟩
  unfold L2.start
  have l : i < (vs.map some).length := by
    rw [List.length_map]
    exact (List.getElem?_eq_some_iff.mp h1).1
  rw [List.getElem?_append_left l, List.getElem?_map, h1]
  rfl
theorem run_ans {E : XK} {Q : VK} {Fb : Slots → S → R Fl} {m : Nat} (a : Ans K Z E (Dv K Z) (runS Fb m ds s) s V H Q) : AnsS K Z E (Fb (st0 m ds) s) s V H V { nx := fun _ H' => Q .non H', rt := Q } := by
  unfold runS at a
  generalize Fb (st0 m ds) s = r at a
  induction r with
  | ok fl s1 =>
    cases fl with
    | rt d => exact a
    | nx ρ => exact fun σ G' H' _ r => a .non G' H' r.nx r.w .non
    | bk ρ => exact a.elim
    | ct ρ => exact a.elim
  | ex e s1 => exact a
  | un => exact a
  | dr t k ih => exact fun i h0 h1 => ih i (a i h0 h1)
  | an P k ih => exact fun d s2 hp => ih d s2 (a d s2 hp)
end
/-- a block that computes -/
structure PPS (X : Cx) (Z : Zn) (E : XK) (sts : List Stmt) (t : TS) (F : Slots → S → R Fl) : Prop where
  pe : PSs X sts t
  cm : CmpS X.K Z E t F
section
variable {P : Program} {w : World} {K : PySem.W.Frag} {mg : Str → Option Value} {base : Heap} {k : Nat} {f : Addr} {fd : FuncData} {N ps : List Str} {x qual : Str} {st : Stmt} {Z : Zn} {Fb : Slots → S → R Fl}
theorem fnO (Fu : Fun K x qual st f fd) (S : FnScope N ps (defScope st)) (hl : ps.length ≤ N.length)
    (hb : ∀ (cdv : Value) (A : Around) (outer : List PySem.Env) (s : Shared) (H : Hp) (E : XK), Room k (A.deeper (envOfC qual (defScope st) s.heap.objs.size f cdv)) → ∃ t, PPS (cxOf (L2.CX P w) P w K mg base N qual (defScope st) f cdv A outer s H E) Z E (defBody st) t Fb) :
    FnOk P w K mg base (L2.CX P w) (k + 1) f fd ps (spD K Z ps.length (runS Fb N.length)) := by
  refine Fu.okX S (fun vs H Q E h => h.1) (fun cdv A outer s H vs Q E hr h => ?_)
  obtain ⟨l, V, ds, s1, w1, r, a⟩ := h
  obtain ⟨t, h1, h2⟩ := hb cdv A outer s H E hr
  exact ⟨t, h1, h2 s1 V H V H _ _ s1 _ (start_rep w1 r (by omega)) (run_ans a)⟩
end
/-- a def of the module that computes F, called by its name -/
structure CalD (P : Program) (w : World) (K : PySem.W.Frag) (mg : Str → Option Value) (base : Heap) (Z : Zn) (k : Nat) (x : Str) (n : Nat) (F : List D → S → R D) : Prop where
  ex : ∃ (f : Addr) (fd : FuncData) (ps : List Str), FnOk P w K mg base (L2.CX P w) k f fd ps (spD K Z n F) ∧ mg x = some (.ref f) ∧ PySem.W.keepIn K (.ref f) = true ∧ Binds K fd ps []
/-- a method of class c -/
structure MetD (P : Program) (w : World) (K : PySem.W.Frag) (mg : Str → Option Value) (base : Heap) (Z : Zn) (k : Nat) (c : Nat) (x : Str) (n : Nat) (F : List D → S → R D) : Prop where
  ex : ∃ (f : Addr) (fd : FuncData) (ps : List Str), FnOk P w K mg base (L2.CX P w) k f fd ps (spD K Z n F) ∧ Meth K (Z.cl c) x f ∧ Binds K fd ps []
  cl : Cls K (Z.cl c)
  na : x ∉ nm c
/-- how many, then F -/
def nF (n : Nat) (F : List D → S → R D) (ds : List D) (s : S) : R D := if ds.length = n then F ds s else .un
def metF (c n : Nat) (F : List D → S → R D) (f : Slots → S → R D) (fa : Slots → S → R (List D)) (ρ : Slots) (s : S) : R D := (f ρ s).bind fun d s => match d with
  | .obj c' es => if c' = c then (fa ρ s).bind fun xs s => nF n F (.obj c' es :: xs) s else .un
  | _ => .un
def fldF (c i : Nat) (d : D) (s : S) : R D := match d with
  | .obj c' es => if c' = c then (match es[i]? with
    | some d => .ok d s
    | none => .un) else .un
  | _ => .un
section
variable {K : PySem.W.Frag} {Z : Zn} {E : XK} {n c : Nat} {F : List D → S → R D} {ua : TA} {fa : Slots → S → R (List D)} {te : TE} {f : Slots → S → R D}
theorem c_call' (ha : CmpA K Z E ua fa) : Cmp K Z E (tCall (spD K Z n F) [] E ua) (bC (nF n F) fa) := fun V H σ ρ s Q w p a =>
  ha V H σ ρ s _ w p (Ans.bind a fun ds s1 vs V1 H1 n1 w1 r1 a1 => by
    unfold nF at a1
    by_cases l : ds.length = n
    · rw [if_pos l] at a1
      exact ⟨by rw [List.append_nil, r1.len]; exact l, V1, ds, s1, w1, by rw [List.append_nil]; exact r1, a1⟩
    · rw [if_neg l] at a1
      exact a1.elim)
theorem lookup_not {x : Str} : ∀ {fs : List (Str × V)} {ns : List Str}, fs.map Prod.fst = ns → x ∉ ns → fs.lookup x = none
  | [], _, _, _ => rfl
  | (y, v) :: fs, _, h, hn => by
    subst h
    rw [List.lookup_cons]
    have : (x == y) = false := by
      apply Bool.eq_false_iff.mpr
      intro z
      exact hn (by rw [eq_of_beq z]; exact List.mem_cons_self)
    rw [this]
    exact lookup_not rfl fun m => hn (List.mem_cons_of_mem _ m)
theorem c_meth {x : Str} (na : x ∉ nm c) (he : Cmp K Z E te f) (ha : CmpA K Z E ua fa) : Cmp K Z E (tMeth (Z.cl c) x (spD K Z n F) [] E te ua) (metF c n F f fa) := fun V H σ ρ s Q w p a =>
  he V H σ ρ s _ w p (Ans.bind a fun d s1 v V1 H1 n1 w1 r1 a1 => by
    cases r1 with
    | @obj b c' dx fs es h hn hs =>
      replace a1 : Ans K Z E (Dv K Z) (if c' = c then (fa ρ s1).bind fun xs s => nF n F (.obj c' es :: xs) s else .un) s1 V1 H1 Q := a1
      by_cases ec : c' = c
      · rw [if_pos ec] at a1
        subst ec
        refine ⟨b, dx, fs, rfl, w1.sv _ _ h, lookup_not hn na, ?_⟩
        refine ha V1 H1 σ ρ s1 _ w1 (p.later n1) (Ans.bind a1 fun ds s2 vs V2 H2 n2 w2 r2 a2 => ?_)
        unfold nF at a2
        by_cases l : (D.obj c' es :: ds).length = n
        · rw [if_pos l] at a2
          refine ⟨?_, V2, .obj c' es :: ds, s2, w2, ?_, a2⟩
          · rw [List.append_nil, List.length_cons, r2.len]
            exact l
          · rw [List.append_nil]
            exact .cons (.obj (n2.g _ _ h) hn (DvA.mono n2.g _ _ hs)) r2
        · rw [if_neg l] at a2
          exact a2.elim
      · rw [if_neg ec] at a1
        exact a1.elim
    | _ => exact a1.elim)
theorem lookup_at {f : Str} : ∀ {fs : List (Str × V)} {ns : List Str} {i : Nat} {v : V}, fs.map Prod.fst = ns → ns.Nodup → ns[i]? = some f → (fs.map Prod.snd)[i]? = some v → fs.lookup f = some v
  | [], _, i, _, h, _, hi, _ => by
    subst h
    simp at hi
  | (y, u) :: fs, _, 0, v, h, _, hi, hv => by
    subst h
    simp at hi hv
    rw [List.lookup_cons, hi, hv]
    simp
  | (y, u) :: fs, _, i + 1, v, h, nd, hi, hv => by
    subst h
    simp only [List.map_cons, List.getElem?_cons_succ] at hi hv
    rw [List.map_cons, List.nodup_cons] at nd
    rw [List.lookup_cons]
    have : (f == y) = false := by
      apply Bool.eq_false_iff.mpr
      intro z
      apply nd.1
      rw [← eq_of_beq z]
      exact List.mem_of_getElem? hi
    rw [this]
    exact lookup_at rfl nd.2 hi hv
theorem c_fld {x : Str} {i : Nat} (cl : Cls K (Z.cl c)) (no : NoAttr K (Z.cl c) x) (nd : (nm c).Nodup) (hi : (nm c)[i]? = some x) (he : Cmp K Z E te f) : Cmp K Z E (tFld K te x) (b1 (fldF c i) f) := fun V H σ ρ s Q w p a =>
  he V H σ ρ s _ w p (Ans.bind a fun d s1 v V1 H1 n1 w1 r1 a1 => by
    cases r1 with
    | @obj b c' dx fs es h hn hs =>
      replace a1 : Ans K Z E (Dv K Z) (if c' = c then (match es[i]? with | some d => .ok d s1 | none => .un) else .un) s1 V1 H1 Q := a1
      by_cases ec : c' = c
      · rw [if_pos ec] at a1
        subst ec
        cases e : es[i]? with
        | none =>
          rw [e] at a1
          exact a1.elim
        | some d =>
          rw [e] at a1
          obtain ⟨v, h1, h2⟩ := hs.at e
          exact ⟨b, Z.cl c', dx, fs, v, rfl, w1.sv _ _ h, cl, no, lookup_at hn nd hi h1, Ans.pure w1 h2 a1⟩
      · rw [if_neg ec] at a1
        exact a1.elim
    | _ => exact a1.elim)
/-- a property that hands back an attribute -/
theorem c_prop {x : Str} {i : Nat} {E' : XK} (nd : (nm c).Nodup) (hi : (nm c)[i]? = some x) (he : Cmp K Z E te f) : Cmp K Z E (tProp (Z.cl c) (getSp (Z.cl c) x) [] E' te) (b1 (fldF c i) f) := fun V H σ ρ s Q w p a =>
  he V H σ ρ s _ w p (Ans.bind a fun d s1 v V1 H1 n1 w1 r1 a1 => by
    cases r1 with
    | @obj b c' dx fs es h hn hs =>
      replace a1 : Ans K Z E (Dv K Z) (if c' = c then (match es[i]? with | some d => .ok d s1 | none => .un) else .un) s1 V1 H1 Q := a1
      by_cases ec : c' = c
      · rw [if_pos ec] at a1
        subst ec
        cases e : es[i]? with
        | none =>
          rw [e] at a1
          exact a1.elim
        | some d =>
          rw [e] at a1
          obtain ⟨v, h1, h2⟩ := hs.at e
          exact ⟨b, dx, fs, rfl, w1.sv _ _ h, b, dx, fs, v, rfl, w1.sv _ _ h, lookup_at hn nd hi h1, Ans.pure w1 h2 a1⟩
      · rw [if_neg ec] at a1
        exact a1.elim
    | _ => exact a1.elim)
/-- C(..) by what its __init__ promises -/
def CmpM (K : PySem.W.Frag) (Z : Zn) (C : Addr) (sp : Sp) (F : List D → S → R D) : Prop := ∀ V H s xs ds Q E a dx, Wd Z.T V H s → DvA K Z V xs ds → H a = none → H dx = none → dx ≠ a → Ans K Z E (Dv K Z) (F ds s) s V H Q →
  sp (.ref a :: xs) (upd (upd H dx (.own a)) a (.ins C dx [])) (fun v H2 => v = .non ∧ Q (.ref a) H2) E
theorem c_make {C : Addr} {sp : Sp} (hm : CmpM K Z C sp F) (ha : CmpA K Z E ua fa) : Cmp K Z E (tMake C sp [] E ua) (bC F fa) := fun V H σ ρ s Q w p a =>
  ha V H σ ρ s _ w p (Ans.bind a fun ds s1 vs V1 H1 n1 w1 r1 a1 => fun x dx h1 h2 h3 => by
    rw [List.append_nil]
    exact hm V1 H1 s1 vs ds Q E x dx w1 r1 h1 h2 h3 a1)
end
/-! ### the rules as they are written -/
section
variable {X : Cx} {Z : Zn} {E : XK} {j k n c : Nat} {x p : Str} {np pos apos : Pos} {o e : Expr} {es : List Expr} {ta : TE} {t : TA} {f : Slots → S → R D} {fa : Slots → S → R (List D)} {F : List D → S → R D}
theorem pp_call (cd : CalD X.prog X.w X.K X.mg X.base Z k x n F) (hr : Room j X.A) (hk : k ≤ j) (hx : Passes (L2.CX X.prog X.w) X E) (hg : Gl X x) (ha : PPA X Z E (e :: es) t fa)
    (hdb : (x == ("__debug__" : Str)) = false := by decide) (he : starEach (e :: es) X.env = (false, eval e X.env) :: starEach es X.env := by rfl) (hpl : (backTo pos (starEach es X.env)).any (·.1) = false := by rfl) :
    PP X Z E (.Call (.Name x np) (e :: es) [] pos) (tCall (spD X.K Z n F) [] E t) (bC (nF n F) fa) := by
  obtain ⟨g, fd, ps, Fn, hm, kp, b⟩ := cd.ex
  exact ⟨pe_call Fn (hr.mono hk) hg hm kp b .nil hx ha.pe hdb he hpl, c_call' ha.cm⟩
theorem pp_call0 (cd : CalD X.prog X.w X.K X.mg X.base Z k x n F) (hr : Room j X.A) (hk : k ≤ j) (hx : Passes (L2.CX X.prog X.w) X E) (hg : Gl X x) (hdb : (x == ("__debug__" : Str)) = false := by decide) :
    PP X Z E (.Call (.Name x np) [] [] pos) (tCall (spD X.K Z n F) [] E tNil) (bC (nF n F) nilA) := by
  obtain ⟨g, fd, ps, Fn, hm, kp, b⟩ := cd.ex
  exact ⟨pe_call0 Fn (hr.mono hk) hg hm kp b .nil hx hdb, c_call' c_nil⟩
theorem pp_meth {pl : Sem Bool} (cd : MetD X.prog X.w X.K X.mg X.base Z k c x n F) (hr : Room j X.A) (hk : k ≤ j) (hx : Passes (L2.CX X.prog X.w) X E) (ho : PP X Z E o ta f) (ha : PPA X Z E (e :: es) t fa)
    (hst : starEach (e :: es) X.env = (false, eval e X.env) :: starEach es X.env := by rfl) (hpl : (backTo pos (starEach es X.env)).any (·.1) = false := by rfl)
    (ht : eval (.Call (.Attribute o x apos) (e :: es) [] pos) X.env = (do
      let ov ← eval o X.env
      standAt apos.atName
      let (f, first) ← holding [ov] (getMethod ov x pl)
      callWith pos f first (backTo pos (starEach (e :: es) X.env)) (backToKw pos (keywordEach [] X.env))) := by rfl) :
    PP X Z E (.Call (.Attribute o x apos) (e :: es) [] pos) (tMeth (Z.cl c) x (spD X.K Z n F) [] E ta t) (metF c n F f fa) := by
  obtain ⟨g, fd, ps, Fn, hm, b⟩ := cd.ex
  exact ⟨pe_meth ho.pe cd.cl hm Fn (hr.mono hk) b .nil hx ha.pe hst hpl ht, c_meth cd.na ho.cm ha.cm⟩
theorem pp_meth0 {pl : Sem Bool} (cd : MetD X.prog X.w X.K X.mg X.base Z k c x n F) (hr : Room j X.A) (hk : k ≤ j) (hx : Passes (L2.CX X.prog X.w) X E) (ho : PP X Z E o ta f)
    (ht : eval (.Call (.Attribute o x apos) [] [] pos) X.env = (do
      let ov ← eval o X.env
      standAt apos.atName
      let (f, first) ← holding [ov] (getMethod ov x pl)
      callWith pos f first (backTo pos (starEach [] X.env)) (backToKw pos (keywordEach [] X.env))) := by rfl) :
    PP X Z E (.Call (.Attribute o x apos) [] [] pos) (tMeth (Z.cl c) x (spD X.K Z n F) [] E ta tNil) (metF c n F f nilA) := by
  obtain ⟨g, fd, ps, Fn, hm, b⟩ := cd.ex
  exact ⟨pe_meth0 ho.pe cd.cl hm Fn (hr.mono hk) b .nil hx ht, c_meth cd.na ho.cm c_nil⟩
end
end Pp

set_option maxHeartbeats 1000000
/-! Pp6: defs that let nothing out, called where nothing is being shown. -/
namespace Pp
open PySem PySem.Spec PyProof.Rows L2 Pg Pf LamX
def spG (K : PySem.W.Frag) (Z : Zn) (n : Nat) (F : List D → S → R D) : Sp := fun vs H Q _ => vs.length = n ∧ ∃ V ds s, Wd Z.T V H s ∧ DvA K Z V vs ds ∧ Ans K Z E0 (Dv K Z) (F ds s) s V H Q
def neF (F : List D → S → R D) (ds : List D) (s : S) : R D := noex (F ds s)
section
variable {P : Program} {w : World} {K : PySem.W.Frag} {mg : Str → Option Value} {base : Heap} {k n : Nat} {f : Addr} {fd : FuncData} {N ps : List Str} {x qual : Str} {st : Stmt} {Z : Zn} {Fb : Slots → S → R Fl} {sp sp' : Sp} {F F' : List D → S → R D}
theorem FnG.imp (Fu : FnG P w K mg base k f fd ps sp) (h : ∀ vs H Q E, sp' vs H Q E → sp vs H Q E) : FnG P w K mg base k f fd ps sp' :=
  ⟨fun vs H Q E q => Fu.len vs H Q E (h _ _ _ _ q), fun A outer s H args us vs Q E hr hg he hb hv hs => Fu.run A outer s H args us vs Q E hr hg he hb hv (h _ _ _ _ hs)⟩
theorem CalG.imp (c : CalG P w K mg base k x sp) (h : ∀ vs H Q E, sp' vs H Q E → sp vs H Q E) : CalG P w K mg base k x sp' := by
  obtain ⟨f, fd, ps, F, r⟩ := c.ex
  exact ⟨f, fd, ps, FnG.imp F h, r⟩
theorem spG_imp (h : Le F' F) : ∀ vs H Q E, spG K Z n F' vs H Q E → spG K Z n F vs H Q E := by
  rintro vs H Q E ⟨l, V, ds, s, w, r, a⟩
  refine ⟨l, V, ds, s, w, r, ?_⟩
  rcases h ds s with e | e
  · rw [e] at a
    exact a.elim
  · rw [e]
    exact a
theorem fnGd (Fu : Fun K x qual st f fd) (S : FnScope N ps (defScope st)) (hl : ps.length ≤ N.length)
    (hb : ∀ (cdv : Value) (A : Around) (outer : List PySem.Env) (s : Shared) (H : Hp) (E : XK), Room k (A.deeper (envOfC qual (defScope st) s.heap.objs.size f cdv)) → (A.deeper (envOfC qual (defScope st) s.heap.objs.size f cdv)).guards = some [] → ∃ t, PPS (cxOf CX0 P w K mg base N qual (defScope st) f cdv A outer s H E).nox Z E0 (defBody st) t Fb) :
    FnG P w K mg base (k + 1) f fd ps (spG K Z ps.length (runS Fb N.length)) := by
  refine okG Fu S (fun vs H Q E h => h.1) (fun cdv A outer s H vs Q E hr hg h => ?_)
  obtain ⟨l, V, ds, s1, w1, r, a⟩ := h
  obtain ⟨t, h1, h2⟩ := hb cdv A outer s H E hr hg
  exact ⟨t, h1, h2 s1 V H V H _ _ s1 _ (start_rep w1 r (by omega)) (run_ans a)⟩
theorem c_callG {E : XK} {ua : TA} {fa : Slots → S → R (List D)} (ha : CmpA K Z E ua fa) : Cmp K Z E (tCallG (spG K Z n F) ua) (bC (nF n (neF F)) fa) := fun V H σ ρ s Q w p a =>
  ha V H σ ρ s _ w p (Ans.bind a fun ds s1 vs V1 H1 n1 w1 r1 a1 => by
    unfold nF at a1
    by_cases l : ds.length = n
    · rw [if_pos l] at a1
      exact ⟨by rw [r1.len]; exact l, V1, ds, s1, w1, r1, Ans.noex a1⟩
    · rw [if_neg l] at a1
      exact a1.elim)
end
section
variable {X : Cx} {k j : Nat} {x : Str} {sp : Sp} {p pos : Pos}
/-- a call with no arguments -/
theorem pe_cG0 (c : CalG X.prog X.w X.K X.mg X.base k x sp) (hr : Room j X.A) (hk : k ≤ j) (hgd : X.A.guards = some []) (hg : Gl X x) (hdb : (x == ("__debug__" : Str)) = false := by decide) : PE X (.Call (.Name x p) [] [] pos) (tCallG sp tNil) := by
  obtain ⟨f, fd, ps, F, hm, kp, b⟩ := c.ex
  refine ⟨fun pins s σ H Q I h => ?_⟩
  refine wpAny_Call_Name_kw (ld_glob I hg hm ?_ hdb)
  exact PySem.W.callWith_K0 I.kIn kp (run_fnG (us := []) F (hr.mono hk) hgd b I .nil h)
end
/-! ### more operations -/
section
variable {K : PySem.W.Frag} {Z : Zn} {E : XK}
def powF (x y : D) (s : S) : R D := match x, y with
  | .int i, .int j => if (decide (0 ≤ j) && decide (j ≤ 1000000) && decide (i.natAbs < 2 ^ 64)) = true then .ok (.int (i ^ j.toNat)) s else .un
  | _, _ => .un
theorem c2_pow : Cmp2 K Z E (rI CPow fun i j => .int (i ^ j.toNat)) powF := fun V H s x y dx dy Q w rx ry a => by
  cases rx with
  | int i =>
    cases ry with
    | int j =>
      change Ans K Z E (Dv K Z) (if _ then _ else _) s V H Q at a
      split at a
      case isTrue e =>
        have e1 := Bool.and_eq_true_iff.mp e
        have e2 := Bool.and_eq_true_iff.mp e1.1
        exact ⟨i, j, rfl, rfl, ⟨of_decide_eq_true e2.1, of_decide_eq_true e2.2, of_decide_eq_true e1.2⟩, Ans.pure w (.int _) a⟩
      case isFalse => exact a.elim
    | _ => exact a.elim
  | _ => exact a.elim
/-! ### data as PyData -/
mutual
def D.py : D → PyData
  | .non => .none
  | .bl b => .bool b
  | .int i => .int i
  | .str x => .str x
  | .tup ds => .tuple (pyA ds)
  | .lst ds => .list (pyA ds)
  | .rls ds => .list (pyA ds)
  | .obj _ _ => .none
  | .adr _ => .none
  | .emp => .none
def pyA : List D → List PyData
  | [] => []
  | d :: ds => d.py :: pyA ds
end
mutual
def D.isPy : D → Bool
  | .non => true
  | .bl _ => true
  | .int _ => true
  | .str _ => true
  | .tup ds => isPyA ds
  | .lst ds => isPyA ds
  | .rls ds => isPyA ds
  | .obj _ _ => false
  | .adr _ => false
  | .emp => false
def isPyA : List D → Bool
  | [] => true
  | d :: ds => d.isPy && isPyA ds
end
mutual
theorem Dv.dp {G : Hp} : ∀ (d : D) (v : V), Dv K Z G v d → d.isPy = true → Dp K G v d.py
  | .non, _, h, _ => by cases h; exact .non
  | .bl _, _, h, _ => by cases h; exact .bl _
  | .int _, _, h, _ => by cases h; exact .int _
  | .str _, _, h, _ => by cases h; exact .str _
  | .tup ds, _, h, e => by
    cases h with
    | tup a b => exact .tup a (DvA.dp ds _ b e)
  | .lst ds, _, h, e => by
    cases h with
    | lst a b => exact .lst (SqL.of a) (DvA.dp ds _ b e)
  | .rls ds, _, h, e => by
    cases h with
    | rls a b => exact .lst a (DvA.dp ds _ b e)
  | .obj _ _, _, _, e => by cases e
  | .adr _, _, _, e => by cases e
  | .emp, _, _, e => by cases e
theorem DvA.dp {G : Hp} : ∀ (ds : List D) (vs : List V), DvA K Z G vs ds → isPyA ds = true → DpAll K G vs (pyA ds)
  | [], _, h, _ => by cases h; exact .nil
  | d :: ds, _, h, e => by
    cases h with
    | cons a b =>
      have e := Bool.and_eq_true_iff.mp e
      exact .cons (Dv.dp d _ a e.1) (DvA.dp ds _ b e.2)
end
def eqOk (x y : D) : Bool := x.isPy && y.isPy && SeqAt.shaped x.py && SeqAt.shaped y.py
def eqF (x y : D) (s : S) : R D := if eqOk x y = true then .ok (.bl (PyData.eqv x.py y.py)) s else .un
def neqF (x y : D) (s : S) : R D := if eqOk x y = true then .ok (.bl (!PyData.eqv x.py y.py)) s else .un
theorem eqOk_of {x y : D} (h : eqOk x y = true) : x.isPy = true ∧ y.isPy = true ∧ SeqAt.shaped x.py = true ∧ SeqAt.shaped y.py = true := by
  have e1 := Bool.and_eq_true_iff.mp h
  have e2 := Bool.and_eq_true_iff.mp e1.1
  have e3 := Bool.and_eq_true_iff.mp e2.1
  exact ⟨e3.1, e3.2, e2.2, e1.2⟩
theorem c2_eqD : Cmp2 K Z E (rEqD K) eqF := fun V H s x y dx dy Q w rx ry a => by
  unfold eqF at a
  split at a
  case isTrue e =>
    obtain ⟨e1, e2, e3, e4⟩ := eqOk_of e
    exact ⟨dx.py, dy.py, Dp.mono w.sv _ _ (Dv.dp dx x rx e1), Dp.mono w.sv _ _ (Dv.dp dy y ry e2), e3, e4, Ans.pure w (.bl _) a⟩
  case isFalse => exact a.elim
theorem c2_neD : Cmp2 K Z E (rNeD K) neqF := fun V H s x y dx dy Q w rx ry a => by
  unfold neqF at a
  split at a
  case isTrue e =>
    obtain ⟨e1, e2, e3, e4⟩ := eqOk_of e
    exact ⟨dx.py, dy.py, Dp.mono w.sv _ _ (Dv.dp dx x rx e1), Dp.mono w.sv _ _ (Dv.dp dy y ry e2), e3, e4, Ans.pure w (.bl _) a⟩
  case isFalse => exact a.elim
/-- {} -/
theorem c_emp : Cmp K Z E tDNewK (kst .emp) := fun V H σ ρ s Q w p a d hd => a (.ref d) (upd V d (.dK [])) _ (Nx.new w hd) (w.new hd fun _ z => by cases z) (.emp upd_same)
/-- an int constant of a class, read by the class, by an instance -/
theorem c_cval {C : Addr} {mc u : Value} {x : Str} {i : Int} (r : ClX.CRead K C mc) (v : ClX.CVal K C mc x (.int i) u) : Cmp K Z E (ClX.tCVal K (tC (.ref C)) x) (kst (.int i)) := fun V H σ ρ s Q w p a => ⟨C, mc, .int i, u, rfl, r, v, Ans.pure w (.int _) a⟩
def conF (c : Nat) (y : D) (d : D) (s : S) : R D := match d with
  | .obj c' _ => if c' = c then .ok y s else .un
  | _ => .un
theorem c_con {te : TE} {f : Slots → S → R D} {c : Nat} {x : Str} {i : Int} {u : Value} (cl : Cls K (Z.cl c)) (k : Con K (Z.cl c) x (.int i) u) (na : x ∉ nm c) (he : Cmp K Z E te f) : Cmp K Z E (tCon K te x) (b1 (conF c (.int i)) f) := fun V H σ ρ s Q w p a =>
  he V H σ ρ s _ w p (Ans.bind a fun d s1 v V1 H1 n1 w1 r1 a1 => by
    cases r1 with
    | @obj b c' dx fs es h hn hs =>
      replace a1 : Ans K Z E (Dv K Z) (if c' = c then .ok (.int i) s1 else .un) s1 V1 H1 Q := a1
      by_cases ec : c' = c
      · rw [if_pos ec] at a1
        subst ec
        exact ⟨b, Z.cl c', dx, fs, .int i, u, rfl, w1.sv _ _ h, cl, k, lookup_not hn na, Ans.pure w1 (.int _) a1⟩
      · rw [if_neg ec] at a1
        exact a1.elim
    | _ => exact a1.elim)
/-- a, b = x, y -/
def parS (i j : Nat) (fa : Slots → S → R (List D)) (ρ : Slots) (s : S) : R Fl := (fa ρ s).bind fun ds s => match ds with
  | [d, e] => .ok (.nx ((ρ.set i (.fz d)).set j (.fz e))) s
  | _ => .un
theorem cs_par {ua : TA} {fa : Slots → S → R (List D)} (i j : Nat) (h : CmpA K Z E ua fa) : CmpS K Z E (tPar i j ua) (parS i j fa) := fun s0 G0 H0 G H σ ρ s D r a =>
  h G H σ ρ s _ r.w r.p (AnsS.bindF r a fun ds s1 vs V1 H1 n1 w1 e a1 => by
    match ds, e, a1 with
    | [d, d2], .cons (v := v) h1 (.cons (v := v2) h2 .nil), a1 => exact ⟨v, v2, rfl, a1 _ V1 H1 (Same.refl _) (((r.on n1 w1).set h1).set h2)⟩
    | [], _, a1 => exact a1.elim
    | [_], _, a1 => exact a1.elim
    | _ :: _ :: _ :: _, _, a1 => exact a1.elim)
end
end Pp

set_option maxHeartbeats 1000000
/-! PpD: drawn numbers. -/
namespace W2
open PySem PySem.Spec PyProof.Rows L2 Pg Pf Pp
def F_draw (ds : List D) (s : S) : R D := match ds, s with
  | [.adr a, .int t], some k => if a = k.m ∧ 1 ≤ t ∧ t ≤ 1000 ∧ k.b ≤ 1000000 then .dr t fun i => .ok (.int i) (some ⟨k.m, k.c, k.q, k.b + 1⟩) else .un
  | _, _ => .un
theorem ne_tab {o : HO} {H : Hp} {p q : Addr} {u : HO} (h : H p = some o) (k : H q = some u) (d : o ≠ u) : p ≠ q := ne_of h k d
theorem c_draw {K : PySem.W.Frag} {Z : Zn} {E : XK} {ua : TA} {fa : Slots → S → R (List D)} (ha : CmpA K Z E ua fa) : Cmp K Z E (tCallG spDraw ua) (bC F_draw fa) := fun V H σ ρ s Q w p a =>
  ha V H σ ρ s _ w p (Ans.bind a fun ds s1 vs V1 H1 n1 w1 r1 a1 => by
    match ds, s1, r1, w1, a1, n1 with
    | [.adr m, .int t], some k, .cons (.adr _) (.cons (.int _) .nil), w1, a1, n1 =>
      replace a1 : Ans K Z E (Dv K Z) (if m = k.m ∧ 1 ≤ t ∧ t ≤ 1000 ∧ k.b ≤ 1000000 then .dr t fun i => .ok (.int i) (some ⟨k.m, k.c, k.q, k.b + 1⟩) else .un) (some k) V1 H1 Q := a1
      by_cases e : m = k.m ∧ 1 ≤ t ∧ t ≤ 1000 ∧ k.b ≤ 1000000
      · rw [if_pos e] at a1
        obtain ⟨e1, t1, t2, eb⟩ := e
        obtain ⟨⟨n, hm, n0, nb⟩, ⟨cs, hc, cl⟩, ⟨gs, hq, gl⟩, vm, vc, vq, cq⟩ := w1.mr
        have M : MAt V1 H1 k.m k.c k.q k.b := ⟨w1.sv, vm, vc, vq, ⟨n, hm, n0, nb⟩, ⟨cs, hc, cl⟩, ⟨gs, hq, gl⟩, cq⟩
        refine ⟨V1, k.m, k.c, k.q, k.b, t, by rw [e1], M, by omega, t1, t2, fun i H' i0 i1 f M' => a1 i i0 i1 (.int i) V1 H' ?_ ?_ (.int i)⟩
        · have st : ∀ p o, H1 p = some o → (∀ ps, o ≠ .tbl ps) → ¬ inS (some k) p → H' p = some o := fun p o e _ i => f.h p o e (fun z => i (.inl z)) (fun z => i (.inr (.inr z)))
          refine ⟨rfl, Same.refl _, st, fun p e => .inl e, fun p e => ?_⟩
          rcases e with e | ⟨ps, e⟩
          · exact .inl (f.k p e)
          · cases z : H1 p with
            | none => exact .inl z
            | some o =>
              obtain ⟨n', hm', _⟩ := M'.ob
              obtain ⟨gs', hq', _⟩ := M'.gs
              have zz := f.h p o z (ne_of e hm' (by intro z; cases z)) (ne_of e hq' (by intro z; cases z))
              rw [e] at zz
              exact .inr ⟨ps, z.trans zz.symm⟩
        · obtain ⟨n', hm', n0', nb'⟩ := M'.ob
          refine ⟨M'.s, w1.nt, fun p hp => ?_, ⟨n', hm', n0', by show n' ≤ ((k.b + 1 : Nat) : Int); have : n' ≤ ((k.b + 1 : Nat) : Int) := nb'; exact this⟩, M'.cs, M'.gs, vm, vc, vq, cq⟩
          obtain ⟨ps, h1, h2, h3⟩ := w1.tb p hp
          refine ⟨ps, f.h _ _ h1 (ne_of h1 hm (by intro z; cases z)) (ne_of h1 hq (by intro z; cases z)), h2, fun pos cv hcv => ?_⟩
          obtain ⟨c, g1, g2⟩ := h3 pos cv hcv
          exact ⟨c, g1, f.h _ _ g2 (ne_of g2 hm (by intro z; cases z)) (ne_of g2 hq (by intro z; cases z))⟩
      · rw [if_neg e] at a1
        exact a1.elim
    | [.adr m, .int t], none, _, _, a1, _ => exact a1.elim
    | [], _, _, _, a1, _ => exact a1.elim
    | [.adr _], _, _, _, a1, _ => exact a1.elim
    | .adr _ :: .non :: _, _, _, _, a1, _ | .adr _ :: .bl _ :: _, _, _, _, a1, _ | .adr _ :: .str _ :: _, _, _, _, a1, _ | .adr _ :: .tup _ :: _, _, _, _, a1, _ | .adr _ :: .lst _ :: _, _, _, _, a1, _ | .adr _ :: .obj _ _ :: _, _, _, _, a1, _ | .adr _ :: .adr _ :: _, _, _, _, a1, _ | .adr _ :: .emp :: _, _, _, _, a1, _ | .adr _ :: .rls _ :: _, _, _, _, a1, _ => exact a1.elim
    | .adr _ :: .int _ :: _ :: _, _, _, _, a1, _ => exact a1.elim
    | .non :: _, _, _, _, a1, _ | .bl _ :: _, _, _, _, a1, _ | .int _ :: _, _, _, _, a1, _ | .str _ :: _, _, _, _, a1, _ | .tup _ :: _, _, _, _, a1, _ | .lst _ :: _, _, _, _, a1, _ | .obj _ _ :: _, _, _, _, a1, _ | .emp :: _, _, _, _, a1, _ | .rls _ :: _, _, _, _, a1, _ => exact a1.elim)
end W2

set_option maxHeartbeats 1000000
/-! PwA: ways and nets as data; promises about ways as functions on data. -/
namespace W2
open PySem PySem.Spec PyProof.Rows L2 Pg Pf LamX Pp Tab Rul
mutual
theorem Dp.ext {K : PySem.W.Frag} {G G' : Hp} (e : ExtN G G') : ∀ (d : PyData) (v : L2.V), Dp K G v d → Dp K G' v d
  | .none, _, h => by cases h; exact .non
  | .bool _, _, h => by cases h; exact .bl _
  | .int _, _, h => by cases h; exact .int _
  | .str _, _, h => by cases h; exact .str _
  | .list ds, _, h => by
    cases h with
    | lst a b =>
      refine .lst ?_ (DpAll.ext e ds _ b)
      rcases a with (a | ⟨o, a⟩) | a
      · exact .inl (.inl (e _ _ a fun _ z => by cases z))
      · exact .inl (.inr ⟨o, e _ _ a fun _ z => by cases z⟩)
      · exact .inr a
  | .tuple ds, _, h => by
    cases h with
    | tup a b =>
      refine .tup ?_ (DpAll.ext e ds _ b)
      rcases a with (a | ⟨o, a⟩) | a
      · exact .inl (.inl (e _ _ a fun _ z => by cases z))
      · exact .inl (.inr ⟨o, e _ _ a fun _ z => by cases z⟩)
      · exact .inr a
  | .dict _, _, h => by cases h
theorem DpAll.ext {K : PySem.W.Frag} {G G' : Hp} (e : ExtN G G') : ∀ (ds : List PyData) (vs : List L2.V), DpAll K G vs ds → DpAll K G' vs ds
  | [], _, h => by cases h; exact .nil
  | d :: ds, _, h => by
    cases h with
    | cons a b => exact .cons (Dp.ext e d _ a) (DpAll.ext e ds _ b)
end
mutual
/-- as data that is only read -/
def ofPy : PyData → D
  | .none => .non
  | .bool b => .bl b
  | .int i => .int i
  | .str x => .str x
  | .tuple ds => .tup (ofPyA ds)
  | .list ds => .rls (ofPyA ds)
  | .dict _ => .non
def ofPyA : List PyData → List D
  | [] => []
  | d :: ds => ofPy d :: ofPyA ds
end
section
variable {K : PySem.W.Frag} {Z : Zn} {G : Hp}
mutual
theorem dv_py : ∀ (d : PyData) (v : L2.V), Dp K G v d → Dv K Z G v (ofPy d)
  | .none, _, h => by cases h; exact .non
  | .bool _, _, h => by cases h; exact .bl _
  | .int _, _, h => by cases h; exact .int _
  | .str _, _, h => by cases h; exact .str _
  | .list ds, _, h => by
    cases h with
    | lst a b => exact .rls a (dv_pyA ds _ b)
  | .tuple ds, _, h => by
    cases h with
    | tup a b => exact .tup a (dv_pyA ds _ b)
  | .dict _, _, h => by cases h
theorem dv_pyA : ∀ (ds : List PyData) (vs : List L2.V), DpAll K G vs ds → DvA K Z G vs (ofPyA ds)
  | [], _, h => by cases h; exact .nil
  | d :: ds, _, h => by
    cases h with
    | cons a b => exact .cons (dv_py d _ a) (dv_pyA ds _ b)
end
mutual
/-- no dict -/
def noD : PyData → Bool
  | .tuple ds => noDA ds
  | .list ds => noDA ds
  | .dict _ => false
  | _ => true
def noDA : List PyData → Bool
  | [] => true
  | d :: ds => noD d && noDA ds
end
mutual
theorem dp_py : ∀ (d : PyData) (v : L2.V), Dv K Z G v (ofPy d) → noD d = true → Dp K G v d
  | .none, _, h, _ => by cases h; exact .non
  | .bool _, _, h, _ => by cases h; exact .bl _
  | .int _, _, h, _ => by cases h; exact .int _
  | .str _, _, h, _ => by cases h; exact .str _
  | .list ds, _, h, e => by
    cases h with
    | rls a b => exact .lst a (dp_pyA ds _ b e)
  | .tuple ds, _, h, e => by
    cases h with
    | tup a b => exact .tup a (dp_pyA ds _ b e)
  | .dict _, _, _, e => by cases e
theorem dp_pyA : ∀ (ds : List PyData) (vs : List L2.V), DvA K Z G vs (ofPyA ds) → noDA ds = true → DpAll K G vs ds
  | [], _, h, _ => by cases h; exact .nil
  | d :: ds, _, h, e => by
    cases h with
    | cons a b =>
      have e := Bool.and_eq_true_iff.mp e
      exact .cons (dp_py d _ a e.1) (dp_pyA ds _ b e.2)
end
end
theorem noD_ints : ∀ ns : List Int, noDA (ns.map PyData.int) = true
  | [] => rfl
  | n :: ns => noD_ints ns
theorem noD_row : ∀ r : List (List Int), noDA (r.map cellD) = true
  | [] => rfl
  | c :: r => by
    show (noDA (c.map PyData.int) && noDA (r.map cellD)) = true
    rw [noD_ints, noD_row r]
    rfl
theorem noD_tabT : ∀ t : List (List (List Int)), noDA (t.map rowT) = true
  | [] => rfl
  | r :: t => by
    show (noDA (r.map cellD) && noDA (t.map rowT)) = true
    rw [noD_row, noD_tabT t]
    rfl
theorem noD_tabL : ∀ t : List (List (List Int)), noDA (t.map rowL) = true
  | [] => rfl
  | r :: t => by
    show (noDA (r.map cellD) && noDA (t.map rowL)) = true
    rw [noD_row, noD_tabL t]
    rfl
abbrev Cf := Nat → Nat → List Int
def tabDD (r l : Nat) (c : Cf) : D := ofPy (tabT (tabF r l c))
/-- a way as data -/
def wayD (r l k : Nat) (c : Cf) : D := .obj 0 [.int (r : Nat), .int (l : Nat), .int (k : Nat), tabDD r l c]
/-- a net as data -/
def netDD (e w k : Nat) (c : Cf) : D := ofPy (netF e w k c)
structure OkW (r l k : Nat) (c : Cf) : Prop where
  r1 : 1 ≤ r
  r2 : r ≤ 6
  l1 : 1 ≤ l
  l2 : l ≤ 6
  k1 : 1 ≤ k
  k2 : k ≤ 12
  ok : ∀ i j, i < r → j < l → Cell (k : Int) (c i j)
section
variable {K : PySem.W.Frag} {Z : Zn} {G : Hp} {a : Addr} {r l k : Nat} {c : Cf}
theorem WayAt.okW {C : Addr} (W : WayAt K C G a r l k c) : OkW r l k c := ⟨W.r1, W.r2, W.l1, W.l2, W.k1, W.k2, W.ok⟩
theorem wf_fst (r l k t : L2.V) : (wf r l k t).map Prod.fst = nm 0 := by rw [wf_eq]; rfl
theorem wf_snd (r l k t : L2.V) : (wf r l k t).map Prod.snd = [r, l, k, t] := by rw [wf_eq]; rfl
theorem WayAt.dv {C : Addr} (hC : Z.cl 0 = C) (W : WayAt K C G a r l k c) : Dv K Z G (.ref a) (wayD r l k c) := by
  subst hC
  obtain ⟨dx, t, h, d⟩ := W.ob
  refine .obj h (wf_fst _ _ _ _) ?_
  rw [wf_snd]
  exact .cons (.int _) (.cons (.int _) (.cons (.int _) (.cons (dv_py _ _ d) .nil)))
theorem way_at {C : Addr} {v : L2.V} (hC : Z.cl 0 = C) (h : Dv K Z G v (wayD r l k c)) (o : OkW r l k c) : ∃ a, v = .ref a ∧ WayAt K C G a r l k c := by
  subst hC
  unfold wayD at h
  cases h with
  | @obj a _ dx fs _ h hn hs =>
    refine ⟨a, rfl, ⟨?_, o.r1, o.r2, o.l1, o.l2, o.k1, o.k2, o.ok⟩⟩
    match fs, hn, hs with
    | [(n1, _), (n2, _), (n3, _), (n4, v4)], hn, .cons (.int _) (.cons (.int _) (.cons (.int _) (.cons h4 .nil))) =>
      have hn' : [n1, n2, n3, n4] = (["_rights", "_lefts", "_places", "_table"] : List Str) := hn
      injection hn' with e1 hn'
      injection hn' with e2 hn'
      injection hn' with e3 hn'
      injection hn' with e4 _
      subst e1 e2 e3 e4
      have d4 : Dp K G v4 (tabT (tabF r l c)) := dp_py _ _ h4 (noD_tabT _)
      have hv : ∃ t, v4 = .ref t := by
        cases d4 with
        | tup a b => exact ⟨_, rfl⟩
      obtain ⟨t, rfl⟩ := hv
      exact ⟨dx, t, by rw [wf_eq]; exact h, d4⟩
end
section
variable {T : List (Addr × Str)} {s : S} {V H G' H' : Hp}
/-- a promise that knows more for good (G'), told without tables -/
theorem fut_wd (w : Wd T V H s) (f : Fut V H G' H') : ∃ V', Nx s s V H V' H' ∧ Wd T V' H' s ∧ ExtN G' V' := by
  refine ⟨fun p => match G' p with | some (.tbl _) => none | o => o, ?_⟩
  have g2 : ∀ p o, (match G' p with | some (.tbl _) => none | o => o) = some o → G' p = some o ∧ ∀ ps, o ≠ .tbl ps := fun p o z => by
    split at z
    · cases z
    · rename_i n
      exact ⟨z, fun ps y => n ps (y ▸ z)⟩
  have g3 : ExtN G' (fun p => match G' p with | some (.tbl _) => none | o => o) := fun p o z n => by
    show (match G' p with | some (.tbl _) => none | o => o) = some o
    rw [z]
    cases o <;> first | rfl | exact absurd rfl (n _)
  have some2 : ∀ p, (match G' p with | some (.tbl _) => none | o => o) ≠ none → G' p ≠ none := fun p y z => by
    rw [z] at y
    exact y rfl
  refine ⟨⟨rfl, fun p o z => g3 p o (f.g p o z) fun ps y => w.nt p ps (y ▸ z), fun p o z _ _ => f.h p o z, fun p z => (f.n p (some2 p z)).elim .inl fun y => .inr (.inl y), fun p z => ?_⟩, ⟨fun p o z => f.s p o (g2 p o z).1, fun p ps z => (g2 p _ z).2 ps rfl, w.tb.ext f.h, ?_⟩, g3⟩
  · cases q : H p with
    | none => exact .inl q
    | some o =>
      by_cases n : ∃ ps, o = .tbl ps
      · obtain ⟨ps, rfl⟩ := n
        exact .inr ⟨ps, q⟩
      · exact absurd rfl (fre_ne (f.h p o q) (fun ps y => n ⟨ps, y⟩) z)
  · cases s with
    | none => exact trivial
    | some k0 =>
      obtain ⟨⟨n, c1, d1⟩, ⟨cs, c2, d2⟩, ⟨gs, c3, d3⟩, v1, v2, v3, c7⟩ := w.mr
      have no : ∀ p o, H p = some o → V p = none → (match G' p with | some (.tbl _) => none | o => o) = none := fun p o z v => by
        cases q : (match G' p with | some (.tbl _) => none | o => o) with
        | none => rfl
        | some u =>
          rcases f.n p (by rw [(g2 p u q).1]; simp) with y | y
          · exact absurd v y
          · rw [z] at y
            cases y
      exact ⟨⟨n, f.h _ _ c1, d1⟩, ⟨cs, f.h _ _ c2, d2⟩, ⟨gs, f.h _ _ c3, d3⟩, no _ _ c1 v1, no _ _ c2 v2, no _ _ c3 v3, c7⟩
end
theorem WayAt.ext {K : PySem.W.Frag} {C : Addr} {G G' : Hp} {a : Addr} {r l k : Nat} {c : Cf} (W : WayAt K C G a r l k c) (e : ExtN G G') : WayAt K C G' a r l k c :=
  ⟨let ⟨dx, t, h, d⟩ := W.ob; ⟨dx, t, e _ _ h (fun _ z => by cases z), Dp.ext e _ _ d⟩, W.r1, W.r2, W.l1, W.l2, W.k1, W.k2, W.ok⟩
/-! ### functions that are told by their values -/
open Classical in
/-- the answer where there is one -/
noncomputable def tell (P : List D → S → R D → Prop) (ds : List D) (s : S) : R D := if h : ∃ r, P ds s r then Classical.choose h else .un
theorem tell_of {P : List D → S → R D → Prop} {ds : List D} {s : S} {r : R D} (h : P ds s r) (u : ∀ r', P ds s r' → r' = r) : tell P ds s = r := by
  have e : ∃ r, P ds s r := ⟨r, h⟩
  unfold tell
  rw [dif_pos e]
  exact u _ (Classical.choose_spec e)
theorem tell_un (P : List D → S → R D → Prop) (ds : List D) (s : S) : P ds s (tell P ds s) ∨ tell P ds s = .un := by
  by_cases e : ∃ r, P ds s r
  · unfold tell
    rw [dif_pos e]
    exact .inl (Classical.choose_spec e)
  · exact .inr (by unfold tell; rw [dif_neg e])
end W2

set_option maxHeartbeats 1000000
/-! Pp7: own exceptions raised; slices; in; attributes set. -/
namespace Pp
open PySem PySem.Spec PyProof.Rows L2 Pg Pf LamX
/-- what a new exception's making leaves of the heap: its dict -/
theorem xd_heap {H : Hp} {a d : Addr} {C : Addr} {fs : List (Str × V)} (ha : H a = none) (hd : d ≠ a) : upd (del (upd (upd (upd H a (exo a C none)) d (exd d fs)) a (exo a C (some d))) a) d (.xd fs) = upd H d (.xd fs) := by
  funext b
  by_cases z : b = d
  · rw [z, upd_same, upd_same]
  · rw [upd_ne z, upd_ne z]
    by_cases z2 : b = a
    · rw [z2, del_same, ha]
    · rw [del_ne z2, upd_ne z2, upd_ne z, upd_ne z2]
/-- __init__ of an own exception that keeps one value -/
def spX1 (C : Addr) (fld : Str) : Sp := fun vs H Q _ => ∃ (a : Addr) (y : V), vs = [.ref a, y] ∧ H a = some (exo a C none) ∧ ∀ dx, H dx = none → dx ≠ a → Q .non (upd (upd H dx (exd dx [(fld, y)])) a (exo a C (some dx)))
/-- the exception class number c: its name in the module, its one field -/
structure OeD (P : Program) (w : World) (K : PySem.W.Frag) (mg : Str → Option Value) (base : Heap) (Z : Zn) (c : Nat) (x fld : Str) : Prop where
  oex : OexC K (Z.cl c)
  gl : mg x = some (.ref (Z.cl c))
  ex : ∃ (fI : Addr) (fd : FuncData) (ps : List Str), PySem.W.findIn K (.ref (Z.cl c)) "__init__" = some (some (.ref fI)) ∧ PySem.W.typeIn K (.ref fI) = some (.type "function") ∧ FnOk P w K mg base CX0 1 fI fd ps (spX1 (Z.cl c) fld) ∧ Binds K fd ps []
/-- raise x(e) -/
def rseS (c : Nat) (fld : Str) (fa : Slots → S → R (List D)) (ρ : Slots) (s : S) : R Fl := (fa (allS ρ) s).bind fun ds s => match ds with
  | [d] => .ex ⟨c, [fld], [d]⟩ s
  | _ => .un
def tRse (C : Addr) (fld : Str) (ua : TA) (E : XK) : TS := fun _ σ H => tMkO C (spX1 C fld) [] ua σ H fun cls d H' => E cls d H'
section
variable {K : PySem.W.Frag} {Z : Zn} {E : XK} {ua : TA} {fa : Slots → S → R (List D)} {c : Nat} {fld : Str}
theorem cs_rse (h : CmpA K Z E ua fa) : CmpS K Z E (tRse (Z.cl c) fld ua E) (rseS c fld fa) := fun s0 G0 H0 G H σ ρ s D r a =>
  h _ H σ (allS ρ) s _ r.hW r.hP (AnsS.bindH r a fun ds s1 vs V1 H1 n1 w1 e a1 => by
    match ds, e, a1 with
    | [d], .cons (v := v) hv .nil, a1 =>
      refine ⟨by show 1 ≤ 1000; decide, fun p hp => ⟨p, v, rfl, upd_same, fun dx h1 h2 => ⟨rfl, dx, [(fld, v)], upd_same, by rw [upd_ne h2, upd_same], ?_, ?_⟩⟩⟩
      · rw [upd_ne h2] at h1
        exact h1
      · rw [upd_ne h2] at h1
        rw [xd_heap hp h2]
        exact a1 _ _ (upd V1 dx (.xd [(fld, v)])) _ ((r.out n1).trans (Nx.new w1 h1)) (w1.new h1 fun _ z => by cases z)
          ⟨rfl, dx, [(fld, v)], rfl, upd_same, rfl, .cons (Dv.mono (Same.new (w1.sv.free h1)) _ _ hv) .nil⟩
    | [], _, a1 => exact a1.elim
    | _ :: _ :: _, _, a1 => exact a1.elim)
end
section
variable {X : Cx} {Z : Zn} {E : XK} {j c : Nat} {x fld : Str} {np pos pos2 : Pos} {e : Expr} {es : List Expr} {t : TA}
theorem ps_rse (oe : OeD X.prog X.w X.K X.mg X.base Z c x fld) (hr : Room j X.A) (hk : 2 ≤ j) (hc : X.calm = true) (tk : Takes X fun cls d _ H' => E cls d H') (hg : Gl X x) (ha : PA X (e :: es) t)
    (hx0 : Passes CX0 X E0) (hdb : (x == ("__debug__" : Str)) = false := by decide) (he : starEach (e :: es) X.env = (false, eval e X.env) :: starEach es X.env := by rfl) (hpl : (backTo pos (starEach es X.env)).any (·.1) = false := by rfl) :
    PS X (.Raise (some (.Call (.Name x np) (e :: es) [] pos)) none pos2) (tRse (Z.cl c) fld t E) := by
  obtain ⟨fI, fd, ps, i1, i2, Fn, b⟩ := oe.ex
  exact ps_raise hc tk (pmk_oex oe.oex i1 i2 Fn (hr.mono hk) b .nil hx0 hg oe.gl ha hdb he hpl)
end
end Pp

set_option maxHeartbeats 1000000
/-! Pp8: slices, in, a tuple times a number. -/
namespace Pp
open PySem PySem.Spec PyProof.Rows L2 Pg Pf LamX Rul
section
variable {K : PySem.W.Frag} {Z : Zn} {E : XK} {te : TE} {f : Slots → S → R D}
/-- a part of a slice -/
def CmpO (K : PySem.W.Frag) (Z : Zn) (E : XK) (t : TO) (f : Slots → S → R (Option Int)) : Prop := ∀ V H σ ρ s Q, Wd Z.T V H s → Rep K Z V H σ ρ s → Ans K Z E (fun _ b c => b = c) (f ρ s) s V H Q → t σ H Q
def noO (_ : Slots) (s : S) : R (Option Int) := .ok none s
def soO (f : Slots → S → R D) (ρ : Slots) (s : S) : R (Option Int) := (f ρ s).bind fun d s => match d with
  | .int i => .ok (some i) s
  | _ => .un
theorem co_no : CmpO K Z E tNoPart noO := fun V H σ ρ s Q w p a => Ans.pure w rfl a
theorem co_so (h : Cmp K Z E te f) : CmpO K Z E (tPart te) (soO f) := fun V H σ ρ s Q w p a =>
  h V H σ ρ s _ w p (Ans.bind a fun d s1 v V1 H1 n1 w1 r1 a1 => by
    cases r1 with
    | int i => exact ⟨i, rfl, Ans.pure w1 rfl a1⟩
    | _ => exact a1.elim)
def cutD {α : Type} (xs : List α) (lo hi : Option Int) : List α := (xs.drop (HT.sIx xs.length 0 lo)).take (HT.sIx xs.length xs.length hi - HT.sIx xs.length 0 lo)
theorem DvA.cut {G : Hp} {vs : List L2.V} {ds : List D} (h : DvA K Z G vs ds) (lo hi : Option Int) : DvA K Z G (cutV vs lo hi) (cutD ds lo hi) := by
  unfold cutV cutD
  rw [h.len]
  exact (h.drop _).take _
theorem cut_all (vs : List L2.V) (lo hi : Option Int) (h : HT.sIx vs.length 0 lo = 0 ∧ HT.sIx vs.length vs.length hi = vs.length) : cutV vs lo hi = vs := by
  unfold cutV
  rw [h.1, h.2, List.drop_zero, Nat.sub_zero, List.take_length]
/-- x[lo:hi] of a tuple -/
def slF (d : D) (lo hi : Option Int) (s : S) : R D := match d with
  | .tup ds => .ok (.tup (cutD ds lo hi)) s
  | _ => .un
def slX (f : Slots → S → R D) (g h : Slots → S → R (Option Int)) (ρ : Slots) (s : S) : R D := (f ρ s).bind fun d s => (g ρ s).bind fun lo s => (h ρ s).bind fun hi s => slF d lo hi s
theorem c_sl {tl th : TO} {g h : Slots → S → R (Option Int)} (he : Cmp K Z E te f) (hl : CmpO K Z E tl g) (hh : CmpO K Z E th h) : Cmp K Z E (L2.tSl (rSlA K) te tl th) (slX f g h) := fun V H σ ρ s Q w p a =>
  he V H σ ρ s _ w p (Ans.bind a fun d s1 v V1 H1 n1 w1 r1 a1 =>
    hl V1 H1 σ ρ s1 _ w1 (p.later n1) (Ans.bind a1 fun lo s2 o2 V2 H2 n2 w2 e2 a2 =>
      hh V2 H2 σ ρ s2 _ w2 ((p.later n1).later n2) (Ans.bind a2 fun hi s3 o3 V3 H3 n3 w3 e3 a3 => by
        subst e2 e3
        replace r1 := Dv.mono (n2.g.trans n3.g) _ _ r1
        cases r1 with
        | @tup b vs ds hx hs =>
          refine ⟨b, vs, rfl, Evl.ex_t w3.sv hx, fun e => ?_, fun _ => new_tup w3 (hs.cut o2 o3) a3⟩
          refine Ans.pure w3 ?_ a3
          have hc := hs.cut o2 o3
          rw [cut_all vs o2 o3 e] at hc
          exact .tup hx hc
        | _ => exact a3.elim)))
/-- flat data as a value -/
def flD : D → Option L2.V
  | .non => some .non
  | .bl b => some (.bl b)
  | .int i => some (.int i)
  | .str x => some (.str x)
  | _ => none
def flA : List D → Option (List L2.V)
  | [] => some []
  | d :: ds => match flD d, flA ds with
    | some v, some vs => some (v :: vs)
    | _, _ => none
theorem flD_of {G : Hp} {v u : L2.V} {d : D} (h : Dv K Z G v d) (e : flD d = some u) : v = u ∧ flatV v = true := by
  cases h <;> first | (cases e; exact ⟨rfl, rfl⟩) | cases e
theorem flA_of {G : Hp} : ∀ {vs us : List L2.V} {ds : List D}, DvA K Z G vs ds → flA ds = some us → vs = us ∧ vs.all flatV = true
  | _, _, _, .nil, e => by
    cases e
    exact ⟨rfl, rfl⟩
  | _, _, _, .cons (d := d) (ds := ds) a b, e => by
    unfold flA at e
    cases e1 : flD d with
    | none =>
      rw [e1] at e
      cases e
    | some v =>
      cases e2 : flA ds with
      | none =>
        rw [e1, e2] at e
        cases e
      | some vs =>
        rw [e1, e2] at e
        cases e
        obtain ⟨rfl, f1⟩ := flD_of a e1
        obtain ⟨rfl, f2⟩ := flA_of b e2
        exact ⟨rfl, by rw [List.all_cons, f1, f2]; rfl⟩
def itsD : D → Option (List D)
  | .tup ds => some ds
  | .lst ds => some ds
  | .rls ds => some ds
  | _ => none
/-- x in y, x not in y -/
def inF (neg : Bool) (x y : D) (s : S) : R D := match flD x, itsD y with
  | some v, some ds => match flA ds with
    | some vs => .ok (.bl (if neg then !inV v vs else inV v vs)) s
    | none => .un
  | _, _ => .un
theorem c2_in (neg : Bool) : Cmp2 K Z E (rIn K neg) (inF neg) := fun V H s x y dx dy Q w rx ry a => by
  unfold inF at a
  cases e1 : flD dx with
  | none =>
    rw [e1] at a
    exact a.elim
  | some v =>
    cases e2 : itsD dy with
    | none =>
      rw [e1, e2] at a
      exact a.elim
    | some ds =>
      rw [e1, e2] at a
      replace a : Ans K Z E (Dv K Z) (match flA ds with | some vs => .ok (.bl (if neg then !inV v vs else inV v vs)) s | none => .un) s V H Q := a
      cases e3 : flA ds with
      | none =>
        rw [e3] at a
        exact a.elim
      | some vs =>
        rw [e3] at a
        obtain ⟨rfl, f1⟩ := flD_of rx e1
        have go : ∀ {p : Addr} {us : List L2.V}, DvA K Z V us ds → (SqL K H p us ∨ SqT K H p us) → rIn K neg x (.ref p) H Q := fun {p us} hs hp => by
          obtain ⟨rfl, f2⟩ := flA_of hs e3
          exact ⟨p, us, rfl, hp, f1, f2, Ans.pure w (.bl _) a⟩
        cases ry with
        | tup h hs =>
          cases e2
          exact go hs (.inr (Evl.ex_t w.sv h))
        | lst h hs =>
          cases e2
          exact go hs (.inl (SqL.of (w.sv _ _ h)))
        | rls h hs =>
          cases e2
          exact go hs (.inl (Evl.ex_l w.sv h))
        | _ => cases e2
/-- a tuple times a number from 1 on -/
def repT (x y : D) (s : S) : R D := match x, y with
  | .tup ds, .int k => if ds ≠ [] ∧ 1 ≤ k ∧ k ≤ 1000 ∧ ds.length ≤ 1000 then .ok (.tup (List.replicate k.toNat ds).flatten) s else .un
  | _, _ => .un
theorem c2_repT : Cmp2 K Z E (rRepA K) repT := fun V H s x y dx dy Q w rx ry a => by
  cases rx with
  | @tup b vs ds hx hs =>
    cases ry with
    | int k =>
      replace a : Ans K Z E (Dv K Z) (if ds ≠ [] ∧ 1 ≤ k ∧ k ≤ 1000 ∧ ds.length ≤ 1000 then .ok (.tup (List.replicate k.toNat ds).flatten) s else .un) s V H Q := a
      by_cases e : ds ≠ [] ∧ 1 ≤ k ∧ k ≤ 1000 ∧ ds.length ≤ 1000
      · rw [if_pos e] at a
        obtain ⟨e1, e2, e3, e4⟩ := e
        refine ⟨b, k, vs, rfl, rfl, Evl.ex_t w.sv hx, fun z => ?_, e2, e3, by rw [hs.len]; exact e4, fun z => ?_, fun _ => new_tup w (hs.rep _) a⟩
        · subst z
          cases hs
          exact e1 rfl
        · subst z
          refine Ans.pure w ?_ a
          have hr := hs.rep (1 : Int).toNat
          have one : ∀ {α : Type} (l : List α), (List.replicate (1 : Int).toNat l).flatten = l := fun l => by
            show (List.replicate 1 l).flatten = l
            simp
          rw [one] at hr
          rw [one] at hr ⊢
          exact .tup hx hr
      · rw [if_neg e] at a
        exact a.elim
    | _ => exact a.elim
  | _ => exact a.elim
end
end Pp

set_option maxHeartbeats 1000000
/-! PwB: the program's helpers as functions on data. -/
namespace W2
open PySem PySem.Spec PyProof.Rows L2 Pg Pf LamX Pp Tab Rul
section
variable {K : PySem.W.Frag} {Z : Zn}
theorem told {n : Nat} {P : List D → S → R D → Prop} {old : Sp} (h : ∀ V H s ds vs r Q E, Wd Z.T V H s → DvA K Z V vs ds → P ds s r → Ans K Z E (Dv K Z) r s V H Q → old vs H Q E) : ∀ vs H Q E, spD K Z n (tell P) vs H Q E → old vs H Q E := by
  rintro vs H Q E ⟨_, V, ds, s, w, r, a⟩
  rcases tell_un P ds s with e | e
  · exact h V H s ds vs _ Q E w r e a
  · rw [e] at a
    exact a.elim
theorem ofPyA_map {α : Type} (f : α → PyData) : ∀ xs : List α, ofPyA (xs.map f) = xs.map fun x => ofPy (f x)
  | [] => rfl
  | x :: xs => by
    show ofPy (f x) :: ofPyA (xs.map f) = _
    rw [ofPyA_map f xs]
    rfl
def intsD (ns : List Int) : List D := ns.map D.int
theorem dva_ints {G : Hp} : ∀ {vs : List L2.V} {ns : List Int}, DvA K Z G vs (intsD ns) → vs = ns.map L2.V.int
  | [], [], .nil => rfl
  | _, n :: ns, .cons a b => by
    cases a
    rw [dva_ints b]
    rfl
/-- check_walker -/
def P_chk (ds : List D) (s : S) (r : R D) : Prop := ∃ v n : Int, ds = [.int v, .int n] ∧ 0 ≤ v ∧ v < n ∧ r = .ok .non s
theorem chk_told : ∀ vs H Q E, spD K Z 2 (tell P_chk) vs H Q E → spChk vs H Q E := told fun V H s ds vs r Q E w hv p a => by
  obtain ⟨v, n, rfl, h1, h2, rfl⟩ := p
  match vs, hv with
  | [_, _], .cons (.int _) (.cons (.int _) .nil) => exact ⟨v, n, rfl, h1, h2, Ans.pure w .non a⟩
/-- pairs_of -/
def P_pairs (ds : List D) (s : S) (r : R D) : Prop := ∃ e l k c, ds = [wayD e l k c] ∧ OkW e l k c ∧ r = .ok (ofPy (.list ((pairsL e l).map pairD))) s
theorem pairs_told {C : Addr} (hC : Z.cl 0 = C) : ∀ vs H Q E, spD K Z 1 (tell P_pairs) vs H Q E → spPairs K C vs H Q E := told fun V H s ds vs r Q E w hv p a => by
  obtain ⟨e, l, k, c, rfl, o, rfl⟩ := p
  match vs, hv with
  | [_], .cons h1 .nil =>
    obtain ⟨b, rfl, W⟩ := way_at hC h1 o
    refine ⟨V, b, e, l, k, c, rfl, w.sv, W, fun p G' H' f d => ?_⟩
    obtain ⟨V', n, w', x⟩ := fut_wd w f
    exact a _ V' H' n w' (dv_py _ _ (Dp.ext x _ _ d))
/-- with_cell -/
def P_cell (ds : List D) (s : S) (r : R D) : Prop := ∃ (e l i j : Nat) (c : Cf) (v : List Int), ds = [tabDD e l c, .int (i : Nat), .int (j : Nat), .tup (intsD v)] ∧ i < e ∧ j < l ∧ e ≤ 6 ∧ l ≤ 6 ∧ r = .ok (tabDD e l (put2 c i j v)) s
theorem cell_told : ∀ vs H Q E, spD K Z 4 (tell P_cell) vs H Q E → spCell K vs H Q E := told fun V H s ds vs r Q E w hv p a => by
  obtain ⟨e, l, i, j, c, v, rfl, hi, hj, he, hl, rfl⟩ := p
  match vs, hv with
  | [v1, _, _, _], .cons h1 (.cons (.int _) (.cons (.int _) (.cons (.tup (a := x) hx hs) .nil))) =>
    have d1 : Dp K V v1 (tabT (tabF e l c)) := dp_py _ _ h1 (noD_tabT _)
    have hv1 : ∃ t, v1 = .ref t := by
      cases d1 with
      | tup a b => exact ⟨_, rfl⟩
    obtain ⟨t, rfl⟩ := hv1
    have d4 : Dp K V (.ref x) (cellD v) := by
      have := dva_ints hs
      subst this
      exact .tup hx (DpAll.ints v)
    refine ⟨V, t, x, e, l, i, j, c, v, rfl, w.sv, d1, hi, hj, he, hl, d4, fun p G' H' f d => ?_⟩
    obtain ⟨V', n, w', x'⟩ := fut_wd w f
    exact a _ V' H' n w' (dv_py _ _ (Dp.ext x' _ _ d))
/-- way_with -/
def P_with (ds : List D) (s : S) (r : R D) : Prop := ∃ (e l k : Nat) (c : Cf), ds = [.int (k : Nat), tabDD e l c] ∧ OkW e l k c ∧ r = .ok (wayD e l k c) s
theorem with_told {C : Addr} (hC : Z.cl 0 = C) : ∀ vs H Q E, spD K Z 2 (tell P_with) vs H Q E → spWith K C vs H Q E := told fun V H s ds vs r Q E w hv p a => by
  obtain ⟨e, l, k, c, rfl, o, rfl⟩ := p
  match vs, hv with
  | [_, v2], .cons (.int _) (.cons h2 .nil) =>
    have d2 : Dp K V v2 (tabT (tabF e l c)) := dp_py _ _ h2 (noD_tabT _)
    have hv2 : ∃ t, v2 = .ref t := by
      cases d2 with
      | tup a b => exact ⟨_, rfl⟩
    obtain ⟨t, rfl⟩ := hv2
    refine ⟨V, t, e, l, k, c, rfl, w.sv, d2, o.r1, o.r2, o.l1, o.l2, o.k1, o.k2, o.ok, fun b G' H' f W => ?_⟩
    obtain ⟨V', n, w', x'⟩ := fut_wd w f
    exact a _ V' H' n w' (WayAt.dv hC (W.ext x'))
/-- _checked_places -/
def P_places (ds : List D) (s : S) (r : R D) : Prop := ∃ (e l k : Nat) (c : Cf) (ns : List Int), ds = [wayD e l k c, .tup (intsD ns)] ∧ OkW e l k c ∧ ns.length ≤ 1000 ∧ (∀ x ∈ ns, 0 ≤ x ∧ x < (k : Int)) ∧ r = .ok (.tup (intsD ((rangeI k).filter fun x => decide (x ∈ ns)))) s
theorem places_told {C : Addr} (hC : Z.cl 0 = C) : ∀ vs H Q E, spD K Z 2 (tell P_places) vs H Q E → spChecked K C vs H Q E := told fun V H s ds vs r Q E w hv p a => by
  obtain ⟨e, l, k, c, ns, rfl, o, hl, hn, rfl⟩ := p
  match vs, hv with
  | [_, _], .cons h1 (.cons (.tup (a := t) hx hs) .nil) =>
    obtain ⟨b, rfl, W⟩ := way_at hC h1 o
    have := dva_ints hs
    subst this
    refine ⟨V, b, t, e, l, k, c, ns, rfl, w.sv, W, hx, hl, hn, fun p G' H' f d => ?_⟩
    obtain ⟨V', n, w', x'⟩ := fut_wd w f
    have d' : SqT K V' p (((rangeI k).filter fun x => decide (x ∈ ns)).map L2.V.int) := by
      rcases d with (d | ⟨o, d⟩) | d
      · exact .inl (.inl (x' _ _ d fun _ z => by cases z))
      · exact .inl (.inr ⟨o, x' _ _ d fun _ z => by cases z⟩)
      · exact .inr d
    exact a _ V' H' n w' (.tup d' (DvA.ints _))
/-- allowed -/
def P_allow (ds : List D) (s : S) (r : R D) : Prop := ∃ (e l k i j : Nat) (c : Cf), ds = [wayD e l k c, .int (i : Nat), .int (j : Nat)] ∧ OkW e l k c ∧ i < e ∧ j < l ∧ r = .ok (.tup (intsD (c i j))) s
theorem dv_cell {G : Hp} {v : L2.V} {ns : List Int} (h : Dp K G v (cellD ns)) : Dv K Z G v (.tup (intsD ns)) := by
  have h2 : Dv K Z G v (ofPy (cellD ns)) := dv_py _ _ h
  have e : ofPy (cellD ns) = .tup (intsD ns) := by
    show D.tup (ofPyA (ns.map PyData.int)) = _
    rw [ofPyA_map]
    rfl
  rw [← e]
  exact h2
theorem allow_told {C : Addr} (hC : Z.cl 0 = C) : ∀ vs H Q E, spD K Z 3 (tell P_allow) vs H Q E → spAllowed K C vs H Q E := told fun V H s ds vs r Q E w hv p a => by
  obtain ⟨e, l, k, i, j, c, rfl, o, hi, hj, rfl⟩ := p
  match vs, hv with
  | [_, _, _], .cons h1 (.cons (.int _) (.cons (.int _) .nil)) =>
    obtain ⟨b, rfl, W⟩ := way_at hC h1 o
    exact ⟨V, b, e, l, k, i, j, c, rfl, w.sv, W, hi, hj, fun x d => Ans.pure w (dv_cell d) a⟩
/-- _law_way -/
def P_lway (ds : List D) (s : S) (r : R D) : Prop := ∃ (e l k : Nat) (c : Cf), ds = [netDD e l k c] ∧ OkW e l k c ∧ r = .ok (wayD e l k c) s
theorem noD_net (e w k : Nat) (c : Cf) : noD (netF e w k c) = true := by
  show (true && (true && (true && (noDA ((tabF e w c).map rowL) && true)))) = true
  rw [noD_tabL]
  rfl
/-- a promise of a def that holds where nothing is being shown -/
theorem toldG {n : Nat} {P : List D → S → R D → Prop} {old : Sp} (h : ∀ V H s ds vs r Q E, Wd Z.T V H s → DvA K Z V vs ds → P ds s r → Ans K Z E0 (Dv K Z) r s V H Q → old vs H Q E) : ∀ vs H Q E, spG K Z n (tell P) vs H Q E → old vs H Q E := by
  rintro vs H Q E ⟨_, V, ds, s, w, r, a⟩
  rcases tell_un P ds s with e | e
  · exact h V H s ds vs _ Q E w r e a
  · rw [e] at a
    exact a.elim
theorem lway_told {C : Addr} (hC : Z.cl 0 = C) : ∀ vs H Q E, spG K Z 1 (tell P_lway) vs H Q E → spWay K C vs H Q E := toldG fun V H s ds vs r Q E w hv p a => by
  obtain ⟨e, l, k, c, rfl, o, rfl⟩ := p
  match vs, hv with
  | [v1], .cons h1 .nil =>
    have d1 : Dp K V v1 (netF e l k c) := dp_py _ _ h1 (noD_net _ _ _ _)
    have hv1 : ∃ t, v1 = .ref t := by
      cases d1 with
      | tup a b => exact ⟨_, rfl⟩
    obtain ⟨t, rfl⟩ := hv1
    refine ⟨V, t, e, l, k, c, rfl, w.sv, d1, o.r1, o.r2, o.l1, o.l2, o.k1, o.k2, o.ok, fun b G' H' f W => ?_⟩
    obtain ⟨V', n, w', x'⟩ := fut_wd w f
    exact a _ V' H' n w' (WayAt.dv hC (W.ext x'))
end
end W2

set_option maxHeartbeats 1000000
/-! PwC: the drawn net; repr. -/
namespace W2
open PySem PySem.Spec PyProof.Rows L2 Pg Pf LamX Pp Tab Rul
section
variable {T : List (Addr × Str)} {V H G' H' : Hp} {m c q : Addr} {b b' : Nat}
theorem wd_mat (w : Wd T V H (some ⟨m, c, q, b⟩)) : MAt V H m c q b := by
  obtain ⟨⟨n, a1, a2, a3⟩, a4, a5, a6, a7, a8, a9⟩ := w.mr
  exact ⟨w.sv, a6, a7, a8, ⟨n, a1, a2, a3⟩, a4, a5, a9⟩
/-- fut_wd where numbers have been drawn -/
theorem futM_wd (w : Wd T V H (some ⟨m, c, q, b⟩)) (f : FutM m q V H G' H') (M : MAt G' H' m c q b') : ∃ V', Nx (some ⟨m, c, q, b⟩) (some ⟨m, c, q, b'⟩) V H V' H' ∧ Wd T V' H' (some ⟨m, c, q, b'⟩) ∧ ExtN G' V' := by
  obtain ⟨n0, hm, _⟩ := (wd_mat w).ob
  obtain ⟨gs0, hq, _⟩ := (wd_mat w).gs
  refine ⟨fun p => match G' p with | some (.tbl _) => none | o => o, ?_⟩
  have g2 : ∀ p o, (match G' p with | some (.tbl _) => none | o => o) = some o → G' p = some o ∧ ∀ ps, o ≠ .tbl ps := fun p o z => by
    split at z
    · cases z
    · rename_i n
      exact ⟨z, fun ps y => n ps (y ▸ z)⟩
  have g3 : ExtN G' (fun p => match G' p with | some (.tbl _) => none | o => o) := fun p o z n => by
    show (match G' p with | some (.tbl _) => none | o => o) = some o
    rw [z]
    cases o <;> first | rfl | exact absurd rfl (n _)
  have some2 : ∀ p, (match G' p with | some (.tbl _) => none | o => o) ≠ none → G' p ≠ none := fun p y z => by
    rw [z] at y
    exact y rfl
  have none2 : ∀ p, G' p = none → (match G' p with | some (.tbl _) => none | o => o) = none := fun p z => by rw [z]
  refine ⟨⟨rfl, fun p o z => g3 p o (f.g p o z) fun ps y => w.nt p ps (y ▸ z), fun p o z _ i => f.h p o z (fun y => i (.inl y)) (fun y => i (.inr (.inr y))), fun p z => (f.n p (some2 p z)).elim .inl fun y => .inr (.inl y), fun p z => ?_⟩, ⟨fun p o z => f.s p o (g2 p o z).1, fun p ps z => (g2 p _ z).2 ps rfl, fun p hp => ?_, ?_⟩, g3⟩
  · rcases z with z | ⟨ps, z⟩
    · exact .inl (f.k p z)
    · cases y : H p with
      | none => exact .inl y
      | some o =>
        obtain ⟨n', hm', _⟩ := M.ob
        obtain ⟨gs', hq', _⟩ := M.gs
        have zz := f.h p o y (ne_of z hm' (by intro z; cases z)) (ne_of z hq' (by intro z; cases z))
        rw [z] at zz
        exact .inr ⟨ps, y.trans zz.symm⟩
  · obtain ⟨ps, h1, h2, h3⟩ := w.tb p hp
    refine ⟨ps, f.h _ _ h1 (ne_of h1 hm (by intro z; cases z)) (ne_of h1 hq (by intro z; cases z)), h2, fun pos cv hcv => ?_⟩
    obtain ⟨c, g1, g2⟩ := h3 pos cv hcv
    exact ⟨c, g1, f.h _ _ g2 (ne_of g2 hm (by intro z; cases z)) (ne_of g2 hq (by intro z; cases z))⟩
  · obtain ⟨n', hm', n0', nb'⟩ := M.ob
    exact ⟨⟨n', hm', n0', nb'⟩, M.cs, M.gs, none2 _ M.gm, none2 _ M.gc, none2 _ M.gq, M.cq⟩
end
section
variable {K : PySem.W.Frag} {Z : Zn}
def OkN (most many : Int) (e w k : Nat) (c : Cf) : Prop := OkW e w k c ∧ (e : Int) ≤ most ∧ (w : Int) ≤ most ∧ (k : Int) ≤ many
/-- _law_net -/
def P_net (ds : List D) (s : S) (r : R D) : Prop := ∃ (m c q : Addr) (b : Nat) (most many : Int), s = some ⟨m, c, q, b⟩ ∧ ds = [.adr m, .int most, .int many] ∧ b ≤ 800000000 ∧ 1 ≤ most ∧ most ≤ 6 ∧ 1 ≤ many ∧ many ≤ 12 ∧
  r = .an (fun d s' => s' = some ⟨m, c, q, b + 600⟩ ∧ ∃ e w k c, d = netDD e w k c ∧ OkN most many e w k c) (fun d s' => .ok d s')
/-- the rows of a table as a function -/
theorem tab_fun {e w : Nat} {R : List (List (List Int))} (h1 : R.length = e) (h2 : ∀ r ∈ R, r.length = w) : ∃ c : Cf, R = tabF e w c := by
  refine ⟨fun i j => ((R[i]?.getD [])[j]?).getD [], ?_⟩
  apply List.ext_getElem?
  intro i
  by_cases hi : i < e
  · rw [tabF_at hi]
    have hi' : i < R.length := by omega
    rw [List.getElem?_eq_getElem hi']
    congr 1
    apply List.ext_getElem?
    intro j
    have hr := h2 _ (List.getElem_mem hi')
    by_cases hj : j < w
    · rw [rowF_at hj]
      have hj' : j < R[i].length := by omega
      rw [List.getElem?_eq_getElem hj', Option.getD_some, List.getElem?_eq_getElem hj', Option.getD_some]
    · rw [List.getElem?_eq_none (by omega), List.getElem?_eq_none (by rw [List.length_map, List.length_range]; omega)]
  · rw [List.getElem?_eq_none (by omega), List.getElem?_eq_none (by rw [tabF_len]; omega)]
theorem net_okN {most many e w k : Int} {R : List (List (List Int))} (N : Net most many e w k R) (h2 : most ≤ 6) (h4 : many ≤ 12) : ∃ (e' w' k' : Nat) (c : Cf), netD e w k R = netF e' w' k' c ∧ OkN most many e' w' k' c := by
  obtain ⟨e', rfl⟩ : ∃ n : Nat, e = n := ⟨e.toNat, by have := N.e1; omega⟩
  obtain ⟨w', rfl⟩ : ∃ n : Nat, w = n := ⟨w.toNat, by have := N.w1; omega⟩
  obtain ⟨k', rfl⟩ : ∃ n : Nat, k = n := ⟨k.toNat, by have := N.k1; omega⟩
  obtain ⟨c, rfl⟩ := tab_fun (R := R) (e := e') (w := w') (by have := N.len; omega) (fun r hr => by have := (N.row r hr).1; omega)
  refine ⟨e', w', k', c, rfl, ⟨by have := N.e1; omega, by have := N.e2; omega, by have := N.w1; omega, by have := N.w2; omega, by have := N.k1; omega, by have := N.k2; omega, fun i j hi hj => ?_⟩, N.e2, N.w2, N.k2⟩
  have hm : (List.range w').map (fun j => c i j) ∈ tabF e' w' c := List.mem_of_getElem? (tabF_at hi)
  exact (N.row _ hm).2 _ (List.mem_of_getElem? (rowF_at hj))
theorem net_told : ∀ vs H Q E, spG K Z 3 (tell P_net) vs H Q E → spNet K vs H Q E := toldG fun V H s ds vs r Q E w hv p a => by
  obtain ⟨m, c, q, b, most, many, rfl, rfl, hb, h1, h2, h3, h4, rfl⟩ := p
  match vs, hv with
  | [_, _, _], .cons (.adr _) (.cons (.int _) (.cons (.int _) .nil)) =>
    refine ⟨V, m, c, q, b, most, many, rfl, wd_mat w, hb, h1, h2, h3, h4, fun t e wd k R G' H' N f M d => ?_⟩
    obtain ⟨e', w', k', cf, eq, o⟩ := net_okN N h2 h4
    obtain ⟨V', n, w', x'⟩ := futM_wd w f M
    refine a (netDD e' _ k' cf) _ ⟨rfl, e', _, k', cf, rfl, o⟩ _ V' H' n w' (dv_py _ _ (Dp.ext x' _ _ ?_))
    rw [← eq]
    exact d
/-- == and != of two ways -/
def P_eqw (neg : Bool) (ds : List D) (s : S) (r : R D) : Prop := ∃ (e l k e' l' k' : Nat) (c c' : Cf), ds = [wayD e l k c, wayD e' l' k' c'] ∧ OkW e l k c ∧ OkW e' l' k' c' ∧
  r = .ok (.bl (if neg = true then !(decide (k = k') && decide (tabF e l c = tabF e' l' c')) else (decide (k = k') && decide (tabF e l c = tabF e' l' c')))) s
theorem c2_eqw {E : XK} {C : Addr} (hC : Z.cl 0 = C) (neg : Bool) (nf : PySem.W.notFirst K C (.ref C) = true) (ty : ∀ {H : Hp} {a dx : Addr} {fs : List (Str × L2.V)}, H a = some (.ins C dx fs) → TyX K H (.ref a) (.ref C)) : Cmp2 K Z E (rCmpW K C (spEqW K C) neg) (fun x y s => tell (P_eqw neg) [x, y] s) := fun V H s x y dx dy Q w rx ry a => by
  replace a : Ans K Z E (Dv K Z) (tell (P_eqw neg) [dx, dy] s) s V H Q := a
  rcases tell_un (P_eqw neg) [dx, dy] s with p | p
  · generalize tell (P_eqw neg) [dx, dy] s = r at p a
    obtain ⟨e, l, k, e', l', k', c, c', h, o, o', rfl⟩ := p
    injection h with h1 h
    injection h with h2 _
    subst h1 h2
    obtain ⟨b, rfl, W⟩ := way_at hC rx o
    obtain ⟨b', rfl, W'⟩ := way_at hC ry o'
    obtain ⟨dx, t, hb, _⟩ := W.ob
    obtain ⟨dx', t', hb', _⟩ := W'.ob
    refine ⟨b, dx, _, .ref C, rfl, w.sv _ _ hb, ?_, nf, V, b, .ref b', e, l, k, c, rfl, w.sv, W, .inl ⟨b', e', l', k', c', rfl, W', ?_⟩⟩
    · exact ty (w.sv _ _ hb')
    · exact ⟨_, rfl, Ans.pure w (.bl _) a⟩
  · rw [p] at a
    exact a.elim
end
end W2

set_option maxHeartbeats 1000000
/-! PpS: methods with *more and keyword-only parameters, called with names. -/
namespace Pp
open PySem PySem.Spec PyProof.Rows L2 Pg Pf LamX
/-- t looks names up in the dict at D, then goes on as u -/
def KwT {α : Type} (D : Addr) : List (Str × Value) → Sem α → Sem α → Prop
  | [], t, u => t = u
  | q :: l, t, u => ∃ (β γ : Type) (k1 : Option Value → Sem β) (k2 : β → Sem γ) (k3 : γ → Sem α) (a : β), t = ((nsGet D q.1 >>= k1) >>= k2) >>= k3 ∧ k1 (some q.2) = pure a ∧ KwT D l (k2 a >>= k3) u
theorem KwT.wp {α : Type} {M : Model} {A : Around} {Q : α → Shared → Prop} {E : Value → Shared → Prop} {s : Shared} {K : PySem.W.Frag} {D : Addr} (X : K.In s.heap) : ∀ {l : List (Str × Value)} {t u : Sem α}, (∀ q ∈ l, PySem.W.nsIn K D q.1 = some (some q.2)) → KwT D l t u → wpAny M A u Q E s → wpAny M A t Q E s
  | [], t, u, _, e, h => by
    have e' : t = u := e
    rw [e']
    exact h
  | q :: l, t, u, hl, e, h => by
    obtain ⟨β, γ, k1, k2, k3, a, e1, e2, e3⟩ := e
    have ih := KwT.wp X (fun p hp => hl p (List.mem_cons_of_mem _ hp)) e3 h
    rw [e1, bind_assoc]
    refine wpAny_bind (wpAny_bind ?_)
    refine PySem.W.looks_nsIn (M := M) X (hl q (List.mem_cons_self ..)) A _ E s (fun _ _ z => z) ?_
    rw [e2]
    exact wpAny_pure ih
/-- the def of the method x of class number c, by what it does once its parameters are bound -/
structure MetS (P : Program) (w : World) (K : PySem.W.Frag) (mg : Str → Option Value) (base : Heap) (Z : Zn) (k c : Nat) (x : Str) (ps : List Str) (F : List D → S → R D) (f : Addr) (fd : FuncData) : Prop where
  cl : Cls K (Z.cl c)
  me : Meth K (Z.cl c) x f
  na : x ∉ nm c
  go : ∀ (A : Around) (outer : List PySem.Env) (s : Shared) (H : Hp) (args : Args) (Q : VK) (E : XK) (G : List V → Hp → Prop), Room k A → Env0 P w K mg base A outer s H → StX.Bnd (L2.CX P w) P w K mg base fd args ps A outer s H E G →
    (∀ vs H2, G vs H2 → spD K Z ps.length F vs H2 Q E) → codeAny (model P w) A (.call (.ref f) args) (CR (L2.CX P w) outer P w H s Q E) s
section
variable {P : Program} {w : World} {K : PySem.W.Frag} {mg : Str → Option Value} {base : Heap} {k c : Nat} {f : Addr} {fd : FuncData} {N ps : List Str} {x qual : Str} {st : Stmt} {Z : Zn} {Fb : Slots → S → R Fl}
/-- such a def from its body -/
theorem metS {oc dV kV doc pm cdv ct : Value} {od an : Option Addr} {osl : Array (Option Value)} (lk : K.lookup f = some ⟨oc, od, .func (PySem.W.fnOf x qual (defArgs st) (defBody st) (defScope st) dV kV doc pm an cdv ct), osl⟩) (hcd : PySem.W.codeIn K cdv qual = true)
    (cl : Cls K (Z.cl c)) (me : Meth K (Z.cl c) x f) (na : x ∉ nm c) (Sc : FnScope N ps (defScope st)) (hl : ps.length ≤ N.length)
    (hb : ∀ (A : Around) (outer : List PySem.Env) (s : Shared) (H : Hp) (E : XK), Room k (A.deeper (envOfC qual (defScope st) s.heap.objs.size f cdv)) → ∃ t, PPS (cxOf (L2.CX P w) P w K mg base N qual (defScope st) f cdv A outer s H E) Z E (defBody st) t Fb) :
    MetS P w K mg base Z (k + 1) c x ps (runS Fb N.length) f (PySem.W.fnOf x qual (defArgs st) (defBody st) (defScope st) dV kV doc pm an cdv ct) := by
  refine ⟨cl, me, na, fun A outer s H args Q E G hr e0 bd hs => ?_⟩
  refine StX.run_bnd lk hcd Sc hr e0 bd fun s2 H2 vs g hr' => ?_
  obtain ⟨l, V, ds, s1, w1, r, a⟩ := hs vs H2 g
  obtain ⟨t, h1, h2⟩ := hb A outer s2 H2 E hr'
  exact ⟨t, h1, h2 s1 V H2 V H2 _ _ s1 _ (start_rep w1 r (by omega)) (run_ans a)⟩
end
/-- o.x(e, .., k=e, ..): self, what gV makes of the values, the tuple of the rest -/
def tStar (C : Addr) (x : Str) (sp : Sp) (E : XK) (gV : List V → List V → List V) (m nk np : Nat) (ta : TE) (t tk : TA) : TE := fun σ H Q => ta σ H fun y H1 => ∃ a dx fs, y = .ref a ∧ H1 a = some (.ins C dx fs) ∧ fs.lookup x = none ∧
  t σ H1 fun vs H2 => vs.length = m ∧ tk σ H2 fun zs H3 => zs.length = nk ∧ vs.length ≤ 1000 ∧ ∀ p, H3 p = none → sp (.ref a :: (gV vs zs ++ [.ref p])) (upd H3 p (.tup (vs.drop np))) Q E
section
variable {X : Cx} {Z : Zn} {j k c np : Nat} {x star : Str} {ps ks : List Str} {F : List D → S → R D} {f : Addr} {fd : FuncData} {E : XK} {pos apos : Pos} {o : Expr} {es : List Expr} {kw : List Keyword} {ta : TE} {t tk : TA} {g : List Value → List Value → List Value} {gV : List V → List V → List V} {Dk : Addr} {miss : List (Str × Value)}
/-- how such a call binds -/
structure BdS (K : PySem.W.Frag) (fd : FuncData) (ps ks : List Str) (m np : Nat) (star : Str) (g : List Value → List Value → List Value) (gV : List V → List V → List V) (Dk : Addr) (miss : List (Str × Value)) : Prop where
  nk : ∀ q ∈ miss, PySem.W.nsIn K Dk q.1 = some (some q.2)
  eq : ∀ (u0 : Value) (us ws : List Value), us.length = m → ws.length = ks.length → KwT Dk miss (bindArgs fd ⟨u0 :: us, ks.zip ws⟩) (newTuple (us.drop np) >>= fun t => pure (ps.zip (u0 :: (g us ws ++ [t]))))
  rel : ∀ {vs zs : List V} {us ws : List Value}, vs.length = m → zs.length = ks.length → Vals vs us → Vals zs ws → Vals (gV vs zs) (g us ws)
  len : ∀ (vs zs : List V), vs.length = m → zs.length = ks.length → (gV vs zs).length + 2 = ps.length
theorem vals_drop : ∀ (n : Nat) {vs : List V} {us : List Value}, Vals vs us → Vals (vs.drop n) (us.drop n)
  | 0, _, _, h => h
  | n + 1, _, _, .nil => .nil
  | n + 1, _, _, .cons a b => vals_drop n b
theorem bnd_star {P : Program} {w : World} {K : PySem.W.Frag} {mg : Str → Option Value} {base : Heap} {m : Nat} {A : Around} {outer : List PySem.Env} {s : Shared} {H : Hp} {E : XK} {a : Addr} {vs zs : List V} {us ws : List Value} (b : BdS K fd ps ks m np star g gV Dk miss) (e0 : Env0 P w K mg base A outer s H)
    (hm : vs.length = m) (hk : zs.length = ks.length) (r : Vals vs us) (rz : Vals zs ws) (h1 : vs.length ≤ 1000) :
    StX.Bnd (L2.CX P w) P w K mg base fd ⟨.ref a :: us, ks.zip ws⟩ ps A outer s H E (fun xs H2 => ∃ p, H p = none ∧ xs = .ref a :: (gV vs zs ++ [.ref p]) ∧ H2 = upd H p (.tup (vs.drop np))) := by
  intro A' Ex Q' h
  have hn : H s.heap.objs.size = Option.none := e0.hok.fresh (Nat.le_refl _)
  have KX : K.In s.heap := e0.mod.kin.keeps fun b o e => (e0.bs b o e).1
  refine KwT.wp KX b.nk (b.eq (.ref a) us ws (by rw [← r.length]; exact hm) (by rw [← rz.length]; exact hk)) ?_
  have dl : (vs.drop np).length ≤ sizeLine := Nat.le_trans (by rw [List.length_drop]; omega) (by decide : 1000 ≤ sizeLine)
  have ld := (vals_drop np r).length
  refine wpAny_bind (wpAny_newTuple (wpAny_pure ?_) (by rw [← ld]; exact dl))
  have new : ObjOk P w (upd H s.heap.objs.size (.tup (vs.drop np))) (s.heap.push ({ cls := .type "tuple", data := .seq (us.drop np).toArray } : Obj)) s.heap.objs.size (.tup (vs.drop np)) := ⟨dl, us.drop np, vals_drop np r, ⟨_, Heap.get?_push_size _ rfl, rfl, _, rfl⟩⟩
  have un := StX.un_laid (fs := frs outer) (s := s) (o := ({ cls := .type "tuple", data := .seq (us.drop np).toArray } : Obj)) (u := .tup (vs.drop np)) hn
  refine h _ _ (.ref a :: (gV vs zs ++ [V.ref s.heap.objs.size])) (Value.ref a :: (g us ws ++ [Value.ref s.heap.objs.size])) (StX.env0_laid e0 new) un rfl (fun e s' z => ?_) (.cons rfl ((b.rel hm hk r rz).append (.cons rfl .nil))) ?_ ⟨_, hn, rfl, rfl⟩
  · exact StX.cxUp outer s H { s with heap := s.heap.push ({ cls := .type "tuple", data := .seq (us.drop np).toArray } : Obj) } _ E e s' un (fun b o e => Heap.get?_push_of_some _ e) rfl z
  · have := b.len vs zs hm hk
    rw [List.length_cons, List.length_append, List.length_singleton]
    omega
theorem run_star {pins : List (Addr × Obj)} {σ : L2.St} {H : Hp} {s : Shared} {Q : VK} {a : Addr} {vs zs : List V} {us ws : List Value} {m : Nat} (M : MetS X.prog X.w X.K X.mg X.base Z k c x ps F f fd) (b : BdS X.K fd ps ks m np star g gV Dk miss) (hr : Room k X.A) (hx : Passes (L2.CX X.prog X.w) X E)
    (I : Inv X pins σ H s) (hm : vs.length = m) (hk : zs.length = ks.length) (r : Vals vs us) (rz : Vals zs ws) (h1 : vs.length ≤ 1000)
    (q : ∀ p, H p = none → spD X.K Z ps.length F (.ref a :: (gV vs zs ++ [.ref p])) (upd H p (.tup (vs.drop np))) Q E) : wpAny (model X.prog X.w) X.A (call (.ref f) (.ref a :: us) (ks.zip ws)) (EP X pins σ Q) X.xe s := by
  refine wpAny_call (codeAny_mono (M.go X.A X.stack s H ⟨.ref a :: us, ks.zip ws⟩ Q E _ hr I.env0 (bnd_star b I.env0 hm hk r rz h1) (fun xs H2 ⟨p, hp, ex, eH⟩ => by
    rw [ex, eH]
    exact q p hp)) fun r s' hq => ?_)
  cases r with
  | error e => exact hx pins σ H s e s' I hq
  | ok fl =>
    cases fl with
    | ret u => exact I.after hq
    | next => exact False.elim hq
    | brk => exact False.elim hq
    | cont => exact False.elim hq
theorem pe_star {pl : Sem Bool} {e : Expr} {m : Nat} (M : MetS X.prog X.w X.K X.mg X.base Z k c x ps F f fd) (b : BdS X.K fd ps ks m np star g gV Dk miss) (hr : Room j X.A) (hk : k ≤ j) (hx : Passes (L2.CX X.prog X.w) X E)
    (ho : PE X o ta) (ha : PA X (e :: es) t) (hw : PK X kw tk)
    (hnm : (backToKw pos (keywordEach kw X.env)).filterMap (·.1) = ks := by rfl)
    (hst : starEach (e :: es) X.env = (false, eval e X.env) :: starEach es X.env := by rfl)
    (hpl : ((backTo pos (starEach (e :: es) X.env)).any (·.1) || (backToKw pos (keywordEach kw X.env)).any (·.1.isNone)) = false := by rfl)
    (hall : (backToKw pos (keywordEach kw X.env)).all (·.1.isSome) = true := by rfl)
    (ht : eval (.Call (.Attribute o x apos) (e :: es) kw pos) X.env = (do
      let ov ← eval o X.env
      standAt apos.atName
      let (f, first) ← holding [ov] (getMethod ov x pl)
      callWith pos f first (backTo pos (starEach (e :: es) X.env)) (backToKw pos (keywordEach kw X.env))) := by rfl) :
    PE X (.Call (.Attribute o x apos) (e :: es) kw pos) (tStar (Z.cl c) x (spD X.K Z ps.length F) E gV m ks.length np ta t tk) := by
  refine ⟨fun pins s σ H Q I h => ?_⟩
  refine PySem.W.methodCall_KW (pl := pl) (thn (ho.run pins s σ H _ I h) fun u s1 ⟨y, H1, I1, ry, a, dx, fs, ey, ea, l, q⟩ => ?_) ht
  subst ey
  obtain rfl : u = Value.ref a := ry
  refine getmeth_ok I1 ea M.cl M.me l ?_
  refine PySem.W.callWith_KW (first := [.ref a]) (h₀ := X.base) I1.ok.mod.kin M.me.kp hall (thn (ha.run pos pins s1 σ H1 _ I1 q) fun us s2 ⟨vs, H2, I2, r, hm, q2⟩ => ?_) hpl hst
  refine thn (hw.run pos pins s2 σ H2 _ I2 q2) fun ws s3 ⟨zs, H3, I3, rz, hz, h1, q3⟩ => ⟨I3.kIn, ?_⟩
  rw [hnm]
  exact run_star M b (hr.mono hk) hx I3 hm hz r rz h1 q3
theorem pe_star0 {pl : Sem Bool} {e : Expr} {q1 : Pos} {k1 : Option Str} {kws : List Keyword} (M : MetS X.prog X.w X.K X.mg X.base Z k c x ps F f fd) (b : BdS X.K fd ps ks 0 np star g gV Dk miss) (hr : Room j X.A) (hk : k ≤ j) (hx : Passes (L2.CX X.prog X.w) X E)
    (ho : PE X o ta) (hw : PK X (⟨k1, e, q1⟩ :: kws) tk)
    (hnm : (backToKw pos (keywordEach (⟨k1, e, q1⟩ :: kws) X.env)).filterMap (·.1) = ks := by rfl)
    (hpl : ((backTo pos (starEach [] X.env)).any (·.1) || (backToKw pos (keywordEach (⟨k1, e, q1⟩ :: kws) X.env)).any (·.1.isNone)) = false := by rfl)
    (hall : (backToKw pos (keywordEach (⟨k1, e, q1⟩ :: kws) X.env)).all (·.1.isSome) = true := by rfl)
    (ht : eval (.Call (.Attribute o x apos) [] (⟨k1, e, q1⟩ :: kws) pos) X.env = (do
      let ov ← eval o X.env
      standAt apos.atName
      let (f, first) ← holding [ov] (getMethod ov x pl)
      callWith pos f first (backTo pos (starEach [] X.env)) (backToKw pos (keywordEach (⟨k1, e, q1⟩ :: kws) X.env))) := by rfl) :
    PE X (.Call (.Attribute o x apos) [] (⟨k1, e, q1⟩ :: kws) pos) (tStar (Z.cl c) x (spD X.K Z ps.length F) E gV 0 ks.length np ta tNil tk) := by
  refine ⟨fun pins s σ H Q I h => ?_⟩
  refine PySem.W.methodCall_KW (pl := pl) (thn (ho.run pins s σ H _ I h) fun u s1 ⟨y, H1, I1, ry, a, dx, fs, ey, ea, l, q⟩ => ?_) ht
  subst ey
  obtain rfl : u = Value.ref a := ry
  refine getmeth_ok I1 ea M.cl M.me l ?_
  refine PySem.W.callWith_KW0 (first := [.ref a]) (h₀ := X.base) I1.ok.mod.kin M.me.kp hall ?_ hpl
  refine thn (hw.run pos pins s1 σ H1 _ I1 q.2) fun ws s3 ⟨zs, H3, I3, rz, hz, h1, q3⟩ => ⟨I3.kIn, ?_⟩
  rw [hnm]
  exact run_star M b (hr.mono hk) hx I3 rfl hz .nil rz h1 q3
/-- .. with nothing at all -/
theorem pe_star00 {pl : Sem Bool} (M : MetS X.prog X.w X.K X.mg X.base Z k c x ps F f fd) (b : BdS X.K fd ps [] 0 np star g gV Dk miss) (hr : Room j X.A) (hk : k ≤ j) (hx : Passes (L2.CX X.prog X.w) X E) (ho : PE X o ta)
    (ht : eval (.Call (.Attribute o x apos) [] [] pos) X.env = (do
      let ov ← eval o X.env
      standAt apos.atName
      let (f, first) ← holding [ov] (getMethod ov x pl)
      callWith pos f first (backTo pos (starEach [] X.env)) (backToKw pos (keywordEach [] X.env))) := by rfl) :
    PE X (.Call (.Attribute o x apos) [] [] pos) (tStar (Z.cl c) x (spD X.K Z ps.length F) E gV 0 0 np ta tNil tNil) := by
  refine ⟨fun pins s σ H Q I h => ?_⟩
  refine PySem.W.methodCall_KW (pl := pl) (thn (ho.run pins s σ H _ I h) fun u s1 ⟨y, H1, I1, ry, a, dx, fs, ey, ea, l, q⟩ => ?_) ht
  subst ey
  obtain rfl : u = Value.ref a := ry
  obtain ⟨_, _, h1, q3⟩ := q
  refine getmeth_ok I1 ea M.cl M.me l ?_
  exact PySem.W.callWith_K0 (first := [.ref a]) I1.kIn M.me.kp (run_star (ks := []) (ws := []) (zs := []) M b (hr.mono hk) hx I1 rfl rfl .nil .nil h1 q3)
end
/-! ### what it computes -/
def starF (c n m nk np : Nat) (gD : List D → List D → List D) (F : List D → S → R D) (fo : Slots → S → R D) (fa fk : Slots → S → R (List D)) (ρ : Slots) (s : S) : R D := (fo ρ s).bind fun d s => match d with
  | .obj c' es => if c' = c then (fa ρ s).bind fun ds s => if ds.length = m then (fk ρ s).bind fun zs s => if zs.length = nk ∧ m ≤ 1000 ∧ (gD ds zs).length + 2 = n then F (.obj c' es :: (gD ds zs ++ [.tup (ds.drop np)])) s else .un else .un else .un
  | _ => .un
section
variable {K : PySem.W.Frag} {Z : Zn} {E : XK} {n m nk np c : Nat} {x : Str} {F : List D → S → R D} {te : TE} {fo : Slots → S → R D} {ta tk : TA} {fa fk : Slots → S → R (List D)} {gV : List V → List V → List V} {gD : List D → List D → List D}
theorem c_star (na : x ∉ nm c) (hg : ∀ {G : Hp} {vs zs : List V} {ds es : List D}, DvA K Z G vs ds → DvA K Z G zs es → DvA K Z G (gV vs zs) (gD ds es)) (ho : Cmp K Z E te fo) (ha : CmpA K Z E ta fa) (hk : CmpA K Z E tk fk) :
    Cmp K Z E (tStar (Z.cl c) x (spD K Z n F) E gV m nk np te ta tk) (starF c n m nk np gD F fo fa fk) := fun V H σ ρ s Q w p a =>
  ho V H σ ρ s _ w p (Ans.bind a fun d s1 v V1 H1 n1 w1 r1 a1 => by
    cases r1 with
    | @obj b c' dx fs es h hn hs =>
      replace a1 : Ans K Z E (Dv K Z) (if c' = c then (fa ρ s1).bind fun ds s => if ds.length = m then (fk ρ s).bind fun zs s => if zs.length = nk ∧ m ≤ 1000 ∧ (gD ds zs).length + 2 = n then F (.obj c' es :: (gD ds zs ++ [.tup (ds.drop np)])) s else .un else .un else .un) s1 V1 H1 Q := a1
      by_cases ec : c' = c
      · rw [if_pos ec] at a1
        subst ec
        refine ⟨b, dx, fs, rfl, w1.sv _ _ h, lookup_not hn na, ?_⟩
        refine ha V1 H1 σ ρ s1 _ w1 (p.later n1) (Ans.bind a1 fun ds s2 vs V2 H2 n2 w2 r2 a2 => ?_)
        by_cases e1 : ds.length = m
        · rw [if_pos e1] at a2
          refine ⟨by rw [r2.len]; exact e1, hk V2 H2 σ ρ s2 _ w2 ((p.later n1).later n2) (Ans.bind a2 fun zs s3 ws V3 H3 n3 w3 r3 a3 => ?_)⟩
          by_cases e : zs.length = nk ∧ m ≤ 1000 ∧ (gD ds zs).length + 2 = n
          · rw [if_pos e] at a3
            obtain ⟨e2, e3, e4⟩ := e
            have r2' := DvA.mono n3.g _ _ r2
            refine ⟨by rw [r3.len]; exact e2, by rw [r2.len]; omega, fun q hq => ?_⟩
            have sm : Same V3 (upd V3 q (.tup (vs.drop np))) := Same.new (w3.sv.free hq)
            have gg := hg r2' r3
            refine ⟨?_, upd V3 q (.tup (vs.drop np)), .obj c' es :: (gD ds zs ++ [.tup (ds.drop np)]), s3, w3.new hq (fun _ z => by cases z), ?_, Ans.later (Nx.new w3 hq) a3⟩
            · rw [List.length_cons, List.length_append, List.length_singleton, gg.len]
              omega
            · exact .cons (.obj (sm _ _ (n3.g _ _ (n2.g _ _ h))) hn (DvA.mono (n2.g.trans (n3.g.trans sm)) _ _ hs)) ((DvA.mono sm _ _ gg).app (.cons (.tup (SqT.of upd_same) (DvA.mono sm _ _ (r2'.drop np))) .nil))
          · rw [if_neg e] at a3
            exact a3.elim
        · rw [if_neg e1] at a2
          exact a2.elim
      · rw [if_neg ec] at a1
        exact a1.elim
    | _ => exact a1.elim)
end
end Pp

set_option maxHeartbeats 1000000
/-! PwD: closing and allowing. -/
namespace W2
open PySem PySem.Spec PyProof.Rows L2 Pg Pf LamX Pp Tab Rul
abbrev s_Way_closing : Stmt := inClass (top 11) 13
abbrev N_Way_closing : List Str := ["self", "right", "left", "places", "closed", "table", "one", "two", "still", "place"]
theorem sc_Way_closing : FnScope N_Way_closing ["self", "right", "left", "places"] (defScope s_Way_closing) := ⟨rfl, rfl, rfl, by decide +kernel, rfl, by decide +kernel, by decide +kernel⟩
noncomputable def p_Way_closing : Slots → S → R Fl :=
  (seqS (ifS (tst (b2 notNF (vr 1) (kst .non))) (dropS (bC (nF 2 (tell P_chk)) (cnsA (vr 1) (cnsA (b1 (fldF 0 0) (vr 0)) nilA)))) nxS)
    (seqS (ifS (tst (b2 notNF (vr 2) (kst .non))) (dropS (bC (nF 2 (tell P_chk)) (cnsA (vr 2) (cnsA (b1 (fldF 0 1) (vr 0)) nilA)))) nxS)
    (seqS (setF 4 (metF 0 2 (tell P_places) (vr 0) (cnsA (vr 3) nilA)))
    (seqS (setF 5 (b1 (fldF 0 3) (vr 0)))
    (seqS (forS (seqI (bC (nF 1 (tell P_pairs)) (cnsA (vr 0) nilA))) (gT 2 (gsC (gN 6) (gsC (gN 7) gs0)))
    (ifS (bnd (bor (tst (b2 isNF (vr 1) (kst .non))) (tst (b2 eqF (vr 1) (vr 6)))) (bor (tst (b2 isNF (vr 2) (kst .non))) (tst (b2 eqF (vr 2) (vr 7))))) (seqS (setF 8 (bC tupleF (cnsA (mkL (lcF (seqI (b2 ixF (b2 ixF (b1 (fldF 0 3) (vr 0)) (vr 6)) (vr 7))) (gN 9) (tst (b2 (inF true) (vr 9) (vr 4))) (vr 9) [9])) nilA)))
    (seqS (ifS (tst (b2 eqF (bC lenF (cnsA (vr 8) nilA)) (kst (.int 0)))) (rseS 12 "value" (cnsA (kst .non) nilA)) nxS)
    (setF 5 (bC (nF 4 (tell P_cell)) (cnsA (vr 5) (cnsA (vr 6) (cnsA (vr 7) (cnsA (vr 8) nilA)))))))) nxS))
    (retS (bC (nF 2 (tell P_with)) (cnsA (b1 (fldF 0 2) (vr 0)) (cnsA (vr 5) nilA)))))))))
abbrev s_Way_allowing : Stmt := inClass (top 11) 12
abbrev N_Way_allowing : List Str := ["self", "right", "left", "places", "chosen"]
theorem sc_Way_allowing : FnScope N_Way_allowing ["self", "right", "left", "places"] (defScope s_Way_allowing) := ⟨rfl, rfl, rfl, by decide +kernel, rfl, by decide +kernel, by decide +kernel⟩
noncomputable def p_Way_allowing : Slots → S → R Fl :=
  (seqS (dropS (bC (nF 2 (tell P_chk)) (cnsA (vr 1) (cnsA (b1 (fldF 0 0) (vr 0)) nilA))))
    (seqS (dropS (bC (nF 2 (tell P_chk)) (cnsA (vr 2) (cnsA (b1 (fldF 0 1) (vr 0)) nilA))))
    (seqS (setF 4 (metF 0 2 (tell P_places) (vr 0) (cnsA (vr 3) nilA)))
    (seqS (ifS (tst (b2 eqF (bC lenF (cnsA (vr 4) nilA)) (kst (.int 0)))) (rseS 12 "value" (cnsA (kst .non) nilA)) nxS)
    (retS (bC (nF 2 (tell P_with)) (cnsA (b1 (fldF 0 2) (vr 0)) (cnsA (bC (nF 4 (tell P_cell)) (cnsA (b1 (fldF 0 3) (vr 0)) (cnsA (vr 1) (cnsA (vr 2) (cnsA (vr 4) nilA))))) nilA))))))))
section
variable {P : Program} {w : World} {K : PySem.W.Frag} {mg : Str → Option Value} {base : Heap} {Z : Zn} {k c n : Nat} {x : Str} {ps : List Str} {f : Addr} {fd : FuncData} {sp old : Sp} {F : List D → S → R D}
/-- what lets nothing out, where something may be let out -/
theorem fnok_up (h : FnOk P w K mg base CX0 k f fd ps old) (imp : ∀ vs H Q E, sp vs H Q E → old vs H Q E) (len : ∀ vs H Q E, sp vs H Q E → vs.length = ps.length) : FnOk P w K mg base (L2.CX P w) k f fd ps sp :=
  ⟨len, fun A outer s H args us vs Q E hr e0 hb r q => codeAny_mono (h.run A outer s H args us vs Q E hr e0 hb r (imp _ _ _ _ q)) fun r s' hq => by
    cases r with
    | error e => exact False.elim hq
    | ok fl =>
      cases fl with
      | ret u => exact hq
      | next => exact False.elim hq
      | brk => exact False.elim hq
      | cont => exact False.elim hq⟩
theorem CalO.up (h : CalO P w K mg base k x old) (imp : ∀ vs H Q E, spD K Z n F vs H Q E → old vs H Q E) : CalD P w K mg base Z k x n F := by
  obtain ⟨f, fd, ps, Fn, m, kp, b⟩ := h.ex
  exact ⟨f, fd, ps, fnok_up Fn imp fun vs H Q E q => Fn.len vs H Q E (imp vs H Q E q), m, kp, b⟩
theorem Mo.up {C : Addr} (hZ : Z.cl c = C) (h : Mo P w K mg base k C x old) (na : x ∉ nm c) (imp : ∀ vs H Q E, spD K Z n F vs H Q E → old vs H Q E) : MetD P w K mg base Z k c x n F := by
  subst hZ
  obtain ⟨f, fd, ps, cl, me, Fn, b⟩ := h.ex
  exact ⟨⟨f, fd, ps, fnok_up Fn imp fun vs H Q E q => Fn.len vs H Q E (imp vs H Q E q), me, b⟩, cl, na⟩
end
section
variable {P : Program} {w : World} {K : PySem.W.Frag} {mg : Str → Option Value} {base : Heap} {Z : Zn} {f : Addr} {oc dV kV doc pm cdv ct : Value} {od an : Option Addr} {osl : Array (Option Value)}
theorem ok_closing (B : Bt mg) (cl : Cls K (Z.cl 0)) (me : Meth K (Z.cl 0) "closing" f) (nR : NoAttr K (Z.cl 0) "_rights") (nL : NoAttr K (Z.cl 0) "_lefts") (nP : NoAttr K (Z.cl 0) "_places") (nT : NoAttr K (Z.cl 0) "_table")
    (cChk : CalD P w K mg base Z 3 "check_walker" 2 (tell P_chk)) (cPairs : CalD P w K mg base Z 4 "pairs_of" 1 (tell P_pairs)) (cCell : CalD P w K mg base Z 2 "with_cell" 4 (tell P_cell)) (cWith : CalD P w K mg base Z 6 "way_with" 2 (tell P_with)) (mPlaces : MetD P w K mg base Z 3 0 "_checked_places" 2 (tell P_places)) (oeP : OeD P w K mg base Z 12 "InvalidPlaces" "value")
    (lk : K.lookup f = some ⟨oc, od, .func (PySem.W.fnOf "closing" "Way.closing" (defArgs s_Way_closing) (defBody s_Way_closing) (defScope s_Way_closing) dV kV doc pm an cdv ct), osl⟩) (hcd : PySem.W.codeIn K cdv "Way.closing" = true) :
    MetS P w K mg base Z 7 0 "closing" ["self", "right", "left", "places"] (runS p_Way_closing N_Way_closing.length) f (PySem.W.fnOf "closing" "Way.closing" (defArgs s_Way_closing) (defBody s_Way_closing) (defScope s_Way_closing) dV kV doc pm an cdv ct) := by
  have naP : ("_checked_places" : Str) ∉ nm 0 := by decide +kernel
  have nd := sc_Way_closing.nd
  refine metS lk hcd cl me (by decide +kernel) sc_Way_closing (by decide) fun A outer s H E hr => ?_
  refine ⟨_, (pss_cons (ps_if (pt_cmpR op_notN (pv 1) pe_non (nomark _)) (pss_one (ps_expr (PP.pe (pp_call cChk hr (by decide) (passes_call (takes_of rfl rfl rfl rfl) (fun _ _ _ _ h => h)) rfl ⟨(pa_cons (pv 1) (pa_cons (pe_fld (pv 0) rfl) pa_nil)), (c_cons (c_var 1) (c_cons (c_fld (i := 0) cl nR (by decide +kernel) (by rfl) (c_var 0)) c_nil))⟩)))) pss_nil)
    (pss_cons (ps_if (pt_cmpR op_notN (pv 2) pe_non (nomark _)) (pss_one (ps_expr (PP.pe (pp_call cChk hr (by decide) (passes_call (takes_of rfl rfl rfl rfl) (fun _ _ _ _ h => h)) rfl ⟨(pa_cons (pv 2) (pa_cons (pe_fld (pv 0) rfl) pa_nil)), (c_cons (c_var 2) (c_cons (c_fld (i := 1) cl nL (by decide +kernel) (by rfl) (c_var 0)) c_nil))⟩)))) pss_nil)
    (pss_cons (ps_set (i := 4) nd rfl (Or.inr rfl) (PP.pe (pp_meth mPlaces hr (by decide) (passes_call (takes_of rfl rfl rfl rfl) (fun _ _ _ _ h => h)) ⟨(pv 0), (c_var 0)⟩ ⟨(pa_cons (pv 3) pa_nil), (c_cons (c_var 3) c_nil)⟩)))
    (pss_cons (ps_set (i := 5) nd rfl (Or.inl rfl) (pe_fld (pv 0) rfl))
    (pss_cons (ps_for (passes_of rfl) rfl (pi_seq (PP.pe (pp_call cPairs hr (by decide) (passes_call (takes_of rfl rfl rfl rfl) (fun _ _ _ _ h => h)) rfl ⟨(pa_cons (pv 0) pa_nil), (c_cons (c_var 0) c_nil)⟩))) (pg_tup rfl (pgs_cons (pg_name (i := 6) nd rfl (Or.inl rfl)) (pgs_cons (pg_name (i := 7) nd rfl (Or.inl rfl)) pgs_nil)))
    (pss_one (ps_if (PW.pt (pw_and (PW.pt (pw_or (pt_cmpR op_isN (pv 1) pe_non (nomark _)) (pw_or1 (pt_cmpR (op_eqD hr.units) (pv 1) (pv 6) (nomark _))))) (pw_and1 (PW.pt (pw_or (pt_cmpR op_isN (pv 2) pe_non (nomark _)) (pw_or1 (pt_cmpR (op_eqD hr.units) (pv 2) (pv 7) (nomark _)))))))) (pss_cons (ps_set (i := 8) nd rfl (Or.inl rfl) (pe_callTy call_tuple_of (by rfl) B.tuple (by decide +kernel) (pa_cons (pe_lc (own := [("place", 9)]) rfl nd (pi_seq (pe_ix ix_seq (pe_ix ix_seq (pe_fld (pv 0) rfl) (pv 6) (fun _ _ => rfl)) (pv 7) (fun _ _ => rfl))) (blkOk_by (N := N_Way_closing) (sc := defScope s_Way_closing) (by decide +kernel)) (fun _ _ _ _ _ => (pg_name (i := 9) nd rfl (Or.inl rfl))) (fun _ _ _ _ _ => pts_one (pt_cmpR (show OpR _ (compareOp .NotIn) (rIn _ true) from op_notIn_seq) (pv 9) (pv 4) (by rfl))) (fun _ _ _ _ _ => (pv 9))) pa_nil)))
    (pss_cons (ps_if (pt_cmpR (op_eqD hr.units) (pe_callB call_len_seq (by rfl) B.len PySem.boot_len (pa_cons (pv 8) pa_nil)) pe_int (nomark _)) (pss_one (ps_rse oeP hr (by decide) rfl (takes_of rfl rfl rfl rfl) rfl (pa_cons pe_non pa_nil) pass0)) pss_nil)
    (pss_one (ps_set (i := 5) nd rfl (Or.inl rfl) (PP.pe (pp_call cCell hr (by decide) (passes_call (takes_of rfl rfl rfl rfl) (fun _ _ _ _ h => h)) rfl ⟨(pa_cons (pv 5) (pa_cons (pv 6) (pa_cons (pv 7) (pa_cons (pv 8) pa_nil)))), (c_cons (c_var 5) (c_cons (c_var 6) (c_cons (c_var 7) (c_cons (c_var 8) c_nil))))⟩)))))) pss_nil)))
    (pss_one (ps_ret (PP.pe (pp_call cWith hr (by decide) (passes_call (takes_of rfl rfl rfl rfl) (fun _ _ _ _ h => h)) rfl ⟨(pa_cons (pe_fld (pv 0) rfl) (pa_cons (pv 5) pa_nil)), (c_cons (c_fld (i := 2) cl nP (by decide +kernel) (by rfl) (c_var 0)) (c_cons (c_var 5) c_nil))⟩))))))))), ?_⟩
  exact (cs_seq (cs_if (c_tT (c_op c2_notN (c_var 1) (c_c fun _ => .non))) (cs_drop (c_call' (c_cons (c_var 1) (c_cons (c_fld (i := 0) cl nR (by decide +kernel) (by rfl) (c_var 0)) c_nil)))) cs_next)
    (cs_seq (cs_if (c_tT (c_op c2_notN (c_var 2) (c_c fun _ => .non))) (cs_drop (c_call' (c_cons (c_var 2) (c_cons (c_fld (i := 1) cl nL (by decide +kernel) (by rfl) (c_var 0)) c_nil)))) cs_next)
    (cs_seq (cs_setF 4 (c_meth naP (c_var 0) (c_cons (c_var 3) c_nil)))
    (cs_seq (cs_setF 5 (c_fld (i := 3) cl nT (by decide +kernel) (by rfl) (c_var 0)))
    (cs_seq (cs_for (ci_seq (c_call' (c_cons (c_var 0) c_nil))) (cg_tup (cg_cons (cg_name 6) (cg_cons (cg_name 7) cg_nil)))
    (cs_if (c_and (c_or (c_tT (c_op c2_isN (c_var 1) (c_c fun _ => .non))) (c_tT (c_op c2_eqD (c_var 1) (c_var 6)))) (c_or (c_tT (c_op c2_isN (c_var 2) (c_c fun _ => .non))) (c_tT (c_op c2_eqD (c_var 2) (c_var 7))))) (cs_seq (cs_setF 8 (c_call cC_tuple (c_cons (c_mkL (cl_lc (ci_seq (c_op c2_ix (c_op c2_ix (c_fld (i := 3) cl nT (by decide +kernel) (by rfl) (c_var 0)) (c_var 6)) (c_var 7))) (cg_name 9) (by decide) (c_tT (c_op (c2_in true) (c_var 9) (c_var 4))) (c_var 9))) c_nil)))
    (cs_seq (cs_if (c_tT (c_op c2_eqD (c_call cC_len (c_cons (c_var 8) c_nil)) (c_c fun _ => .int _))) (cs_rse (c_cons (c_c fun _ => .non) c_nil)) cs_next)
    (cs_setF 5 (c_call' (c_cons (c_var 5) (c_cons (c_var 6) (c_cons (c_var 7) (c_cons (c_var 8) c_nil)))))))) cs_next))
    (cs_ret (c_call' (c_cons (c_fld (i := 2) cl nP (by decide +kernel) (by rfl) (c_var 0)) (c_cons (c_var 5) c_nil)))))))))
theorem ok_allowing (B : Bt mg) (cl : Cls K (Z.cl 0)) (me : Meth K (Z.cl 0) "allowing" f) (nR : NoAttr K (Z.cl 0) "_rights") (nL : NoAttr K (Z.cl 0) "_lefts") (nP : NoAttr K (Z.cl 0) "_places") (nT : NoAttr K (Z.cl 0) "_table")
    (cChk : CalD P w K mg base Z 3 "check_walker" 2 (tell P_chk)) (cPairs : CalD P w K mg base Z 4 "pairs_of" 1 (tell P_pairs)) (cCell : CalD P w K mg base Z 2 "with_cell" 4 (tell P_cell)) (cWith : CalD P w K mg base Z 6 "way_with" 2 (tell P_with)) (mPlaces : MetD P w K mg base Z 3 0 "_checked_places" 2 (tell P_places)) (oeP : OeD P w K mg base Z 12 "InvalidPlaces" "value")
    (lk : K.lookup f = some ⟨oc, od, .func (PySem.W.fnOf "allowing" "Way.allowing" (defArgs s_Way_allowing) (defBody s_Way_allowing) (defScope s_Way_allowing) dV kV doc pm an cdv ct), osl⟩) (hcd : PySem.W.codeIn K cdv "Way.allowing" = true) :
    MetS P w K mg base Z 7 0 "allowing" ["self", "right", "left", "places"] (runS p_Way_allowing N_Way_allowing.length) f (PySem.W.fnOf "allowing" "Way.allowing" (defArgs s_Way_allowing) (defBody s_Way_allowing) (defScope s_Way_allowing) dV kV doc pm an cdv ct) := by
  have naP : ("_checked_places" : Str) ∉ nm 0 := by decide +kernel
  have nd := sc_Way_allowing.nd
  refine metS lk hcd cl me (by decide +kernel) sc_Way_allowing (by decide) fun A outer s H E hr => ?_
  refine ⟨_, (pss_cons (ps_expr (PP.pe (pp_call cChk hr (by decide) (passes_call (takes_of rfl rfl rfl rfl) (fun _ _ _ _ h => h)) rfl ⟨(pa_cons (pv 1) (pa_cons (pe_fld (pv 0) rfl) pa_nil)), (c_cons (c_var 1) (c_cons (c_fld (i := 0) cl nR (by decide +kernel) (by rfl) (c_var 0)) c_nil))⟩)))
    (pss_cons (ps_expr (PP.pe (pp_call cChk hr (by decide) (passes_call (takes_of rfl rfl rfl rfl) (fun _ _ _ _ h => h)) rfl ⟨(pa_cons (pv 2) (pa_cons (pe_fld (pv 0) rfl) pa_nil)), (c_cons (c_var 2) (c_cons (c_fld (i := 1) cl nL (by decide +kernel) (by rfl) (c_var 0)) c_nil))⟩)))
    (pss_cons (ps_set (i := 4) nd rfl (Or.inl rfl) (PP.pe (pp_meth mPlaces hr (by decide) (passes_call (takes_of rfl rfl rfl rfl) (fun _ _ _ _ h => h)) ⟨(pv 0), (c_var 0)⟩ ⟨(pa_cons (pv 3) pa_nil), (c_cons (c_var 3) c_nil)⟩)))
    (pss_cons (ps_if (pt_cmpR (op_eqD hr.units) (pe_callB call_len_seq (by rfl) B.len PySem.boot_len (pa_cons (pv 4) pa_nil)) pe_int (nomark _)) (pss_one (ps_rse oeP hr (by decide) rfl (takes_of rfl rfl rfl rfl) rfl (pa_cons pe_non pa_nil) pass0)) pss_nil)
    (pss_one (ps_ret (PP.pe (pp_call cWith hr (by decide) (passes_call (takes_of rfl rfl rfl rfl) (fun _ _ _ _ h => h)) rfl ⟨(pa_cons (pe_fld (pv 0) rfl) (pa_cons (PP.pe (pp_call cCell hr (by decide) (passes_call (takes_of rfl rfl rfl rfl) (fun _ _ _ _ h => h)) rfl ⟨(pa_cons (pe_fld (pv 0) rfl) (pa_cons (pv 1) (pa_cons (pv 2) (pa_cons (pv 4) pa_nil)))), (c_cons (c_fld (i := 3) cl nT (by decide +kernel) (by rfl) (c_var 0)) (c_cons (c_var 1) (c_cons (c_var 2) (c_cons (c_var 4) c_nil))))⟩)) pa_nil)), (c_cons (c_fld (i := 2) cl nP (by decide +kernel) (by rfl) (c_var 0)) (c_cons (c_call' (c_cons (c_fld (i := 3) cl nT (by decide +kernel) (by rfl) (c_var 0)) (c_cons (c_var 1) (c_cons (c_var 2) (c_cons (c_var 4) c_nil))))) c_nil))⟩)))))))), ?_⟩
  exact (cs_seq (cs_drop (c_call' (c_cons (c_var 1) (c_cons (c_fld (i := 0) cl nR (by decide +kernel) (by rfl) (c_var 0)) c_nil))))
    (cs_seq (cs_drop (c_call' (c_cons (c_var 2) (c_cons (c_fld (i := 1) cl nL (by decide +kernel) (by rfl) (c_var 0)) c_nil))))
    (cs_seq (cs_setF 4 (c_meth naP (c_var 0) (c_cons (c_var 3) c_nil)))
    (cs_seq (cs_if (c_tT (c_op c2_eqD (c_call cC_len (c_cons (c_var 4) c_nil)) (c_c fun _ => .int _))) (cs_rse (c_cons (c_c fun _ => .non) c_nil)) cs_next)
    (cs_ret (c_call' (c_cons (c_fld (i := 2) cl nP (by decide +kernel) (by rfl) (c_var 0)) (c_cons (c_call' (c_cons (c_fld (i := 3) cl nT (by decide +kernel) (by rfl) (c_var 0)) (c_cons (c_var 1) (c_cons (c_var 2) (c_cons (c_var 4) c_nil))))) c_nil))))))))
end
end W2

set_option maxHeartbeats 1000000
/-! PwE: what closing answers. -/
namespace W2
open PySem PySem.Spec PyProof.Rows L2 Pg Pf LamX Pp Tab Rul
theorem intsD_inj {ns ms : List Int} (h : intsD ns = intsD ms) : ns = ms :=
  List.map_inj_right (fun x y e => by injection e) |>.mp h
def rowDD (r : List (List Int)) : D := .tup (r.map fun c => .tup (intsD c))
theorem ofPy_cell (c : List Int) : ofPy (cellD c) = .tup (intsD c) := by
  show D.tup (ofPyA (c.map PyData.int)) = _
  rw [ofPyA_map]
  rfl
theorem ofPy_rowT (r : List (List Int)) : ofPy (rowT r) = rowDD r := by
  show D.tup (ofPyA (r.map cellD)) = _
  rw [ofPyA_map]
  unfold rowDD
  congr 1
  exact List.map_congr_left fun c _ => ofPy_cell c
theorem tabDD_eq (e l : Nat) (c : Cf) : tabDD e l c = .tup ((tabF e l c).map rowDD) := by
  show D.tup (ofPyA ((tabF e l c).map rowT)) = _
  rw [ofPyA_map]
  congr 1
  exact List.map_congr_left fun r _ => ofPy_rowT r
theorem rowDD_inj {r r' : List (List Int)} (h : rowDD r = rowDD r') : r = r' := by
  unfold rowDD at h
  injection h with h
  exact (List.map_inj_right (fun x y e => by
    injection e with e
    exact intsD_inj e)).mp h
theorem tabDD_inj {e l e' l' : Nat} {c c' : Cf} (h : tabDD e l c = tabDD e' l' c') : tabF e l c = tabF e' l' c' := by
  rw [tabDD_eq, tabDD_eq] at h
  injection h with h
  exact (List.map_inj_right (fun x y e => rowDD_inj e)).mp h
theorem wayD_inj {e l k e' l' k' : Nat} {c c' : Cf} (h : wayD e l k c = wayD e' l' k' c') : e = e' ∧ l = l' ∧ k = k' ∧ tabF e l c = tabF e' l' c' := by
  unfold wayD at h
  injection h with _ h
  injection h with h1 h
  injection h with h2 h
  injection h with h3 h
  injection h with h4 _
  injection h1 with h1
  injection h2 with h2
  injection h3 with h3
  exact ⟨by omega, by omega, by omega, tabDD_inj h4⟩
theorem tab_sizes {e l e' l' : Nat} {c c' : Cf} (h : tabF e l c = tabF e' l' c') (he : 1 ≤ e) : e = e' ∧ l = l' := by
  have h1 := congrArg List.length h
  rw [tabF_len, tabF_len] at h1
  subst h1
  refine ⟨rfl, ?_⟩
  have h2 := congrArg (fun t : List (List (List Int)) => (t[0]?).map List.length) h
  simp only [tabF_at (show 0 < e by omega), Option.map_some, List.length_map, List.length_range] at h2
  exact Option.some.inj h2
theorem tab_put {e l i j : Nat} (c : Cf) (v : List Int) (hi : i < e) : tabF e l (put2 c i j v) = (tabF e l c).set i (((tabF e l c)[i]?.getD []).set j v) := by
  rw [tabF_at hi, Option.getD_some, tabF_put]
theorem chk_eq {v n : Int} (s : S) (h : 0 ≤ v ∧ v < n) : tell P_chk [.int v, .int n] s = .ok .non s := tell_of ⟨v, n, rfl, h.1, h.2, rfl⟩ fun r' ⟨_, _, _, _, _, e⟩ => e
theorem pairs_eq {e l k : Nat} {c : Cf} (s : S) (o : OkW e l k c) : tell P_pairs [wayD e l k c] s = .ok (.rls ((pairsL e l).map fun p => .tup [.int (p.1 : Nat), .int (p.2 : Nat)])) s := by
  have go : ∀ e l : Nat, ofPy (.list ((pairsL e l).map pairD)) = .rls ((pairsL e l).map fun p => .tup [.int (p.1 : Nat), .int (p.2 : Nat)]) := fun e l => by
    show D.rls (ofPyA ((pairsL e l).map pairD)) = _
    rw [ofPyA_map]
    rfl
  refine tell_of ⟨e, l, k, c, rfl, o, by rw [go]⟩ fun r' ⟨e', l', k', c', h, _, q⟩ => ?_
  injection h with h _
  obtain ⟨rfl, rfl, _, _⟩ := wayD_inj h
  rw [q, go]
theorem cell_eq {e l i j : Nat} {c : Cf} {v : List Int} (s : S) (hi : i < e) (hj : j < l) (he : e ≤ 6) (hl : l ≤ 6) : tell P_cell [tabDD e l c, .int (i : Nat), .int (j : Nat), .tup (intsD v)] s = .ok (tabDD e l (put2 c i j v)) s := by
  refine tell_of ⟨e, l, i, j, c, v, rfl, hi, hj, he, hl, rfl⟩ fun r' ⟨e', l', i', j', c', v', h, hi', hj', _, _, q⟩ => ?_
  injection h with h1 h
  injection h with h2 h
  injection h with h3 h
  injection h with h4 _
  injection h2 with h2
  injection h3 with h3
  injection h4 with h4
  obtain rfl : i = i' := by omega
  obtain rfl : j = j' := by omega
  obtain rfl := intsD_inj h4
  rw [q, tabDD_eq, tabDD_eq, tab_put c' v hi', tab_put c v hi, tabDD_inj h1]
theorem with_eq {e l k : Nat} {c : Cf} (s : S) (o : OkW e l k c) : tell P_with [.int (k : Nat), tabDD e l c] s = .ok (wayD e l k c) s := by
  refine tell_of ⟨e, l, k, c, rfl, o, rfl⟩ fun r' ⟨e', l', k', c', h, o', q⟩ => ?_
  injection h with h1 h
  injection h with h2 _
  injection h1 with h1
  obtain rfl : k = k' := by omega
  obtain ⟨rfl, rfl⟩ := tab_sizes (tabDD_inj h2) o.r1
  rw [q]
  unfold wayD
  rw [h2]
theorem places_eq {e l k : Nat} {c : Cf} {ns : List Int} (s : S) (o : OkW e l k c) (hl : ns.length ≤ 1000) (hn : ∀ x ∈ ns, 0 ≤ x ∧ x < (k : Int)) :
    tell P_places [wayD e l k c, .tup (intsD ns)] s = .ok (.tup (intsD ((rangeI k).filter fun x => decide (x ∈ ns)))) s := by
  refine tell_of ⟨e, l, k, c, ns, rfl, o, hl, hn, rfl⟩ fun r' ⟨e', l', k', c', ns', h, _, _, _, q⟩ => ?_
  injection h with h1 h
  injection h with h2 _
  injection h2 with h2
  obtain ⟨_, _, rfl, _⟩ := wayD_inj h1
  obtain rfl := intsD_inj h2
  exact q
end W2

set_option maxHeartbeats 1000000
/-! PwF: closing, evaluated. -/
namespace W2
open PySem PySem.Spec PyProof.Rows L2 Pg Pf LamX Pp Tab Rul
def oD : Option Nat → D
  | none => .non
  | some i => .int (i : Nat)
def isO (o : Option Nat) (i : Nat) : Bool := match o with
  | none => true
  | some a => decide (a = i)
def meant (ro lo : Option Nat) (i j : Nat) : Bool := isO ro i && isO lo j
def keepN (c : Cf) (ns : List Int) (i j : Nat) : List Int := (c i j).filter fun x => !decide (x ∈ ns)
theorem eqF_int (a b : Int) (s : S) : eqF (.int a) (.int b) s = .ok (.bl (decide (a = b))) s := by
  unfold eqF
  rw [if_pos (by rfl)]
  rfl
theorem lc_ints {ρ : Slots} {n : Nat} {p : Slots → S → R Bool} {f : Slots → S → R D} {q : Int → Bool} (hp : ∀ x s, p (ρ.set n (.fz (.int x))) s = .ok (q x) s) (hf : ∀ x s, f (ρ.set n (.fz (.int x))) s = .ok (.int x) s) :
    ∀ (xs : List Int) (s : S), lcL (gN n) p f ρ (intsD xs) s = .ok (intsD (xs.filter q)) s
  | [], s => rfl
  | x :: xs, s => by
    show (noex (p (ρ.set n (.fz (.int x))) s)).bind _ = _
    rw [hp]
    show (if q x = true then _ else _) = _
    have ih := lc_ints hp hf xs s
    by_cases h : q x = true
    · rw [if_pos h, hf]
      show (lcL (gN n) p f ρ (intsD xs) s).bind _ = _
      rw [ih, List.filter_cons, if_pos h]
      rfl
    · rw [if_neg h, List.filter_cons, if_neg h]
      exact ih
/-- x not in ns -/
theorem notin_ints (x : Int) (ns : List Int) (s : S) : inF true (.int x) (.tup (intsD ns)) s = .ok (.bl (!decide (x ∈ ns))) s := by
  have hf : ∀ ns : List Int, flA (intsD ns) = some (ns.map L2.V.int) := fun ns => by
    induction ns with
    | nil => rfl
    | cons n ns ih =>
      show (match flD (D.int n), flA (intsD ns) with | some v, some vs => some (v :: vs) | _, _ => none) = _
      rw [ih]
      rfl
  have hi : ∀ ns : List Int, inV (.int x) (ns.map L2.V.int) = decide (x ∈ ns) := fun ns => by
    induction ns with
    | nil => rfl
    | cons n ns ih =>
      show (eqV (.int n) (.int x) || inV (.int x) (ns.map L2.V.int)) = _
      rw [ih]
      show ((n == x) || decide (x ∈ ns)) = _
      rw [Bool.eq_iff_iff]
      simp only [Bool.or_eq_true, beq_iff_eq, decide_eq_true_eq, List.mem_cons]
      exact ⟨fun h => h.imp Eq.symm id, fun h => h.imp Eq.symm id⟩
  show (match flA (intsD ns) with | some vs => R.ok (D.bl (if true = true then !inV (.int x) vs else inV (.int x) vs)) s | none => .un) = _
  rw [hf, ← hi]
  rfl
def cond_cl : Slots → S → R Bool := bnd (bor (tst (b2 isNF (vr 1) (kst .non))) (tst (b2 eqF (vr 1) (vr 6)))) (bor (tst (b2 isNF (vr 2) (kst .non))) (tst (b2 eqF (vr 2) (vr 7))))
def keep_cl : Slots → S → R Fl := setF 8 (bC tupleF (cnsA (mkL (lcF (seqI (b2 ixF (b2 ixF (b1 (fldF 0 3) (vr 0)) (vr 6)) (vr 7))) (gN 9) (tst (b2 (inF true) (vr 9) (vr 4))) (vr 9) [9])) nilA))
def none_cl : Slots → S → R Fl := ifS (tst (b2 eqF (bC lenF (cnsA (vr 8) nilA)) (kst (.int 0)))) (rseS 12 "value" (cnsA (kst .non) nilA)) nxS
noncomputable def put_cl : Slots → S → R Fl := setF 5 (bC (nF 4 (tell P_cell)) (cnsA (vr 5) (cnsA (vr 6) (cnsA (vr 7) (cnsA (vr 8) nilA)))))
noncomputable def body_cl : Slots → S → R Fl := ifS cond_cl (seqS keep_cl (seqS none_cl put_cl)) nxS
theorem p_closing_eq : p_Way_closing = seqS (ifS (tst (b2 notNF (vr 1) (kst .non))) (dropS (bC (nF 2 (tell P_chk)) (cnsA (vr 1) (cnsA (b1 (fldF 0 0) (vr 0)) nilA)))) nxS)
    (seqS (ifS (tst (b2 notNF (vr 2) (kst .non))) (dropS (bC (nF 2 (tell P_chk)) (cnsA (vr 2) (cnsA (b1 (fldF 0 1) (vr 0)) nilA)))) nxS)
    (seqS (setF 4 (metF 0 2 (tell P_places) (vr 0) (cnsA (vr 3) nilA)))
    (seqS (setF 5 (b1 (fldF 0 3) (vr 0)))
    (seqS (forS (seqI (bC (nF 1 (tell P_pairs)) (cnsA (vr 0) nilA))) (gT 2 (gsC (gN 6) (gsC (gN 7) gs0))) body_cl)
    (retS (bC (nF 2 (tell P_with)) (cnsA (b1 (fldF 0 2) (vr 0)) (cnsA (vr 5) nilA)))))))) := rfl
section
variable {e l k : Nat} {c t : Cf} {ns cl : List Int} {ro lo : Option Nat}
def rC (e l k : Nat) (c t : Cf) (ns cl : List Int) (ro lo : Option Nat) (x6 x7 x8 : Sl) : Slots := [.fz (wayD e l k c), .fz (oD ro), .fz (oD lo), .fz (.tup (intsD ns)), .fz (.tup (intsD cl)), .fz (tabDD e l t), x6, x7, x8, .no]
theorem rC_all {x6 x7 x8 : Sl} (h6 : x6.all = x6) (h7 : x7.all = x7) (h8 : x8.all = x8) : allS (rC e l k c t ns cl ro lo x6 x7 x8) = rC e l k c t ns cl ro lo x6 x7 x8 := by
  show [_, _, _, _, _, _, x6.all, x7.all, x8.all, _] = _
  rw [h6, h7, h8]
  rfl
theorem or_is (o : Option Nat) (i : Nat) (ρ : Slots) (s : S) {n m : Nat} (h1 : ∀ s, vr n ρ s = .ok (oD o) s) (h2 : ∀ s, vr m ρ s = .ok (.int (i : Nat)) s) :
    bor (tst (b2 isNF (vr n) (kst .non))) (tst (b2 eqF (vr n) (vr m))) ρ s = .ok (isO o i) s := by
  cases o with
  | none =>
    unfold bor tst b2
    rw [h1]
    rfl
  | some a =>
    have e1 : tst (b2 isNF (vr n) (kst .non)) ρ s = .ok false s := by
      unfold tst b2
      rw [h1]
      rfl
    have e2 : tst (b2 eqF (vr n) (vr m)) ρ s = .ok (decide (a = i)) s := by
      unfold tst b2
      rw [h1]
      show ((vr m ρ s).bind fun y s => eqF (.int (a : Nat)) y s).bind bl' = _
      rw [h2]
      show (eqF (.int (a : Nat)) (.int (i : Nat)) s).bind bl' = _
      rw [eqF_int]
      show R.ok (decide ((a : Int) = (i : Int))) s = _
      congr 1
      rw [Bool.eq_iff_iff, decide_eq_true_eq, decide_eq_true_eq]
      omega
    unfold bor
    rw [e1]
    show (if false = true then R.ok true s else tst (b2 eqF (vr n) (vr m)) ρ s) = _
    rw [if_neg Bool.false_ne_true, e2]
    rfl
theorem cond_eq (i j : Nat) (x8 : Sl) (s : S) : cond_cl (rC e l k c t ns cl ro lo (.fz (.int (i : Nat))) (.fz (.int (j : Nat))) x8) s = .ok (meant ro lo i j) s := by
  unfold cond_cl bnd
  rw [or_is ro i _ s (fun _ => rfl) (fun _ => rfl)]
  show (if isO ro i = true then _ else _) = _
  unfold meant
  cases isO ro i with
  | true =>
    rw [if_pos rfl, or_is lo j _ s (fun _ => rfl) (fun _ => rfl)]
    rfl
  | false =>
    rw [if_neg Bool.false_ne_true]
    rfl
theorem atI_nat' {α : Type} {xs : List α} {n : Nat} {x : α} (h : xs[n]? = some x) : L2.atI xs (n : Int) = some x := by
  have hl : n < xs.length := (List.getElem?_eq_some_iff.mp h).1
  unfold L2.atI
  have e : ixN xs.length (n : Int) = some n := by
    unfold ixN
    split
    · split
      · rw [Int.toNat_natCast]
      · omega
    · omega
  rw [e]
  exact h
theorem cell_at (s : S) {i j : Nat} (hi : i < e) (hj : j < l) (ρ : Slots) (h0 : ∀ s, vr 0 ρ s = .ok (wayD e l k c) s) (h6 : ∀ s, vr 6 ρ s = .ok (.int (i : Nat)) s) (h7 : ∀ s, vr 7 ρ s = .ok (.int (j : Nat)) s) :
    b2 ixF (b2 ixF (b1 (fldF 0 3) (vr 0)) (vr 6)) (vr 7) ρ s = .ok (.tup (intsD (c i j))) s := by
  unfold b2 b1
  rw [h0]
  show (((vr 6 ρ s).bind fun y s => ixF (tabDD e l c) y s).bind fun x s => (vr 7 ρ s).bind fun y s => ixF x y s) = _
  rw [h6]
  show ((ixF (tabDD e l c) (.int (i : Nat)) s).bind fun x s => (vr 7 ρ s).bind fun y s => ixF x y s) = _
  have r1 : ((tabF e l c).map rowDD)[i]? = some (rowDD ((List.range l).map fun j => c i j)) := by
    rw [List.getElem?_map, tabF_at hi]
    rfl
  have e1 : ixF (tabDD e l c) (.int (i : Nat)) s = .ok (rowDD ((List.range l).map fun j => c i j)) s := by
    rw [tabDD_eq]
    show (match L2.atI ((tabF e l c).map rowDD) (i : Int) with | some d => R.ok d s | none => .un) = _
    rw [atI_nat' r1]
  rw [e1]
  show (vr 7 ρ s).bind (fun y s => ixF (rowDD ((List.range l).map fun j => c i j)) y s) = _
  rw [h7]
  show ixF (rowDD ((List.range l).map fun j => c i j)) (.int (j : Nat)) s = _
  have r2 : (((List.range l).map fun j => c i j).map fun c => D.tup (intsD c))[j]? = some (.tup (intsD (c i j))) := by
    rw [List.getElem?_map, rowF_at hj]
    rfl
  show (match L2.atI (((List.range l).map fun j => c i j).map fun c => D.tup (intsD c)) (j : Int) with | some d => R.ok d s | none => .un) = _
  rw [atI_nat' r2]
/-- the next table -/
def stepT (c : Cf) (ns : List Int) (ro lo : Option Nat) (t : Cf) (p : Nat × Nat) : Cf := if meant ro lo p.1 p.2 = true then put2 t p.1 p.2 (keepN c ns p.1 p.2) else t
/-- nothing is left for a pair that is meant -/
def badP (c : Cf) (ns : List Int) (ro lo : Option Nat) (p : Nat × Nat) : Bool := meant ro lo p.1 p.2 && decide (keepN c ns p.1 p.2 = [])
def noPl : Exc := ⟨12, ["value"], [.non]⟩
theorem cell_in (o : OkW e l k c) {i j : Nat} (hi : i < e) (hj : j < l) {x : Int} (hx : x ∈ c i j) : 0 ≤ x ∧ x < (k : Int) := (o.ok i j hi hj).2.2 x hx
theorem keep_eq (o : OkW e l k c) (hc : ∀ x : Int, 0 ≤ x → x < (k : Int) → (x ∈ cl ↔ x ∈ ns)) {i j : Nat} (hi : i < e) (hj : j < l) (x8 : Sl) (s : S) :
    keep_cl (rC e l k c t ns cl ro lo (.fz (.int (i : Nat))) (.fz (.int (j : Nat))) x8) s = .ok (.nx (rC e l k c t ns cl ro lo (.fz (.int (i : Nat))) (.fz (.int (j : Nat))) (.fz (.tup (intsD (keepN c ns i j)))))) s := by
  have h1 : lcF (seqI (b2 ixF (b2 ixF (b1 (fldF 0 3) (vr 0)) (vr 6)) (vr 7))) (gN 9) (tst (b2 (inF true) (vr 9) (vr 4))) (vr 9) [9] (rC e l k c t ns cl ro lo (.fz (.int (i : Nat))) (.fz (.int (j : Nat))) x8) s = .ok (intsD (keepN c ns i j)) s := by
    unfold lcF seqI
    rw [cell_at s hi hj _ (fun _ => rfl) (fun _ => rfl) (fun _ => rfl)]
    show (if fits (intsD (c i j)).length = true then _ else R.un) = _
    have hl : (intsD (c i j)).length ≤ 12 := by
      have e1 : (intsD (c i j)).length = (c i j).length := List.length_map _
      rw [e1]
      have := asc_len (o.ok i j hi hj).2.1 (fun x hx => (cell_in o hi hj hx)) (Int.natCast_nonneg k)
      have := o.k2
      omega
    rw [if_pos (by unfold fits; exact decide_eq_true (by omega))]
    have hq : keepN c ns i j = (c i j).filter fun x => !decide (x ∈ cl) := List.filter_congr fun x hx => by
      have := cell_in o hi hj hx
      rw [Bool.eq_iff_iff]
      simp only [Bool.not_eq_true', decide_eq_false_iff_not]
      exact not_congr (hc x this.1 this.2).symm
    rw [hq]
    refine lc_ints (q := fun x => !decide (x ∈ cl)) (fun x s => ?_) (fun x s => rfl) (c i j) s
    unfold tst b2
    show (inF true (.int x) (.tup (intsD cl)) s).bind bl' = _
    rw [notin_ints]
    rfl
  unfold keep_cl setF bC cnsA mkL
  rw [h1]
  rfl
theorem none_eq (vs : List Int) (x6 x7 : Sl) (h6 : x6.all = x6) (h7 : x7.all = x7) (s : S) (hv : vs.length ≤ 1000) :
    none_cl (rC e l k c t ns cl ro lo x6 x7 (.fz (.tup (intsD vs)))) s = if vs = [] then .ex noPl s else .ok (.nx (rC e l k c t ns cl ro lo x6 x7 (.fz (.tup (intsD vs))))) s := by
  have h1 : tst (b2 eqF (bC lenF (cnsA (vr 8) nilA)) (kst (.int 0))) (rC e l k c t ns cl ro lo x6 x7 (.fz (.tup (intsD vs)))) s = .ok (decide (vs = [])) s := by
    unfold tst b2
    show (eqF (.int (((intsD vs).length : Nat) : Int)) (.int 0) s).bind bl' = _
    rw [eqF_int]
    show R.ok _ s = _
    congr 1
    have : (intsD vs).length = vs.length := List.length_map _
    rw [this, Bool.eq_iff_iff, decide_eq_true_eq, decide_eq_true_eq]
    cases vs with
    | nil => simp
    | cons a as =>
      rw [List.length_cons]
      constructor
      · intro h
        omega
      · intro h
        cases h
  unfold none_cl ifS
  rw [rC_all h6 h7 rfl, h1]
  show (if decide (vs = []) = true then rseS 12 "value" (cnsA (kst .non) nilA) _ s else nxS _ s) = _
  by_cases e : vs = []
  · rw [if_pos (decide_eq_true e), if_pos e]
    rfl
  · rw [if_neg (by rw [decide_eq_true_eq]; exact e), if_neg e]
    rfl
theorem body_eq (o : OkW e l k c) (hc : ∀ x : Int, 0 ≤ x → x < (k : Int) → (x ∈ cl ↔ x ∈ ns)) {i j : Nat} (hi : i < e) (hj : j < l) (x8 : Sl) (h8 : x8.all = x8) (s : S) :
    ∃ y8 : Sl, y8.all = y8 ∧ body_cl (rC e l k c t ns cl ro lo (.fz (.int (i : Nat))) (.fz (.int (j : Nat))) x8) s = if badP c ns ro lo (i, j) = true then .ex noPl s else .ok (.nx (rC e l k c (stepT c ns ro lo t (i, j)) ns cl ro lo (.fz (.int (i : Nat))) (.fz (.int (j : Nat))) y8)) s := by
  unfold body_cl ifS
  rw [rC_all rfl rfl h8, cond_eq]
  show ∃ y8 : Sl, y8.all = y8 ∧ (if meant ro lo i j = true then _ else nxS _ s) = _
  by_cases hm : meant ro lo i j = true
  · refine ⟨.fz (.tup (intsD (keepN c ns i j))), rfl, ?_⟩
    rw [if_pos hm]
    unfold seqS
    rw [keep_eq o hc hi hj]
    show (none_cl _ s).bind _ = _
    have hv : (keepN c ns i j).length ≤ 1000 := by
      have h1 : (keepN c ns i j).length ≤ (c i j).length := List.length_filter_le _ _
      have := asc_len (o.ok i j hi hj).2.1 (fun x hx => (cell_in o hi hj hx)) (Int.natCast_nonneg k)
      have := o.k2
      omega
    rw [none_eq _ _ _ rfl rfl s hv]
    unfold badP stepT
    simp only [hm, Bool.true_and]
    by_cases hb : keepN c ns i j = []
    · rw [if_pos hb, if_pos (decide_eq_true hb)]
      rfl
    · rw [if_neg hb, if_neg (by rw [decide_eq_true_eq]; exact hb), if_pos True.intro]
      show put_cl (rC e l k c t ns cl ro lo _ _ _) s = _
      unfold put_cl setF bC
      show (R.bind (nF 4 (tell P_cell) [tabDD e l t, .int (i : Nat), .int (j : Nat), .tup (intsD (keepN c ns i j))] s) _ : R Fl) = _
      unfold nF
      rw [if_pos (by rfl), cell_eq s hi hj o.r2 o.l2]
      rfl
  · refine ⟨x8, h8, ?_⟩
    rw [if_neg hm]
    unfold badP stepT
    have hm' : meant ro lo i j = false := Bool.eq_false_iff.mpr hm
    simp only [hm', Bool.false_and]
    rw [if_neg Bool.false_ne_true, if_neg Bool.false_ne_true]
    rfl
theorem loop_eq (o : OkW e l k c) (hc : ∀ x : Int, 0 ≤ x → x < (k : Int) → (x ∈ cl ↔ x ∈ ns)) (s : S) : ∀ (qs : List (Nat × Nat)), (∀ p ∈ qs, p.1 < e ∧ p.2 < l) → ∀ (t : Cf) (x6 x7 x8 : Sl), x8.all = x8 →
    ∃ y6 y7 y8 : Sl, forL (gT 2 (gsC (gN 6) (gsC (gN 7) gs0))) body_cl (qs.map fun p => .tup [.int (p.1 : Nat), .int (p.2 : Nat)]) (rC e l k c t ns cl ro lo x6 x7 x8) s =
      if qs.any (badP c ns ro lo) = true then .ex noPl s else .ok (.nx (rC e l k c (qs.foldl (stepT c ns ro lo) t) ns cl ro lo y6 y7 y8)) s
  | [], _, t, x6, x7, x8, _ => ⟨x6, x7, x8, rfl⟩
  | (i, j) :: qs, h, t, x6, x7, x8, h8 => by
    obtain ⟨hi, hj⟩ := h (i, j) List.mem_cons_self
    obtain ⟨y8, g8, e1⟩ := body_eq (t := t) (ro := ro) (lo := lo) o hc hi hj x8 h8 s
    have e2 : forL (gT 2 (gsC (gN 6) (gsC (gN 7) gs0))) body_cl (((i, j) :: qs).map fun p => .tup [.int (p.1 : Nat), .int (p.2 : Nat)]) (rC e l k c t ns cl ro lo x6 x7 x8) s =
      (body_cl (rC e l k c t ns cl ro lo (.fz (.int (i : Nat))) (.fz (.int (j : Nat))) x8) s).bind (forK fun ρ s => forL (gT 2 (gsC (gN 6) (gsC (gN 7) gs0))) body_cl (qs.map fun p => .tup [.int (p.1 : Nat), .int (p.2 : Nat)]) ρ s) := rfl
    rw [e2, e1]
    by_cases hb : badP c ns ro lo (i, j) = true
    · refine ⟨x6, x7, x8, ?_⟩
      rw [if_pos hb, if_pos (by rw [List.any_cons, hb]; rfl)]
      rfl
    · obtain ⟨z6, z7, z8, ih⟩ := loop_eq o hc s qs (fun p hp => h p (List.mem_cons_of_mem _ hp)) (stepT c ns ro lo t (i, j)) (.fz (.int (i : Nat))) (.fz (.int (j : Nat))) y8 g8
      refine ⟨z6, z7, z8, ?_⟩
      rw [if_neg hb]
      have hb' : badP c ns ro lo (i, j) = false := Bool.eq_false_iff.mpr hb
      rw [List.any_cons, hb', Bool.false_or, List.foldl_cons]
      exact ih
/-- the table that closing leaves -/
def lessW (c : Cf) (ns : List Int) (ro lo : Option Nat) : Cf := fun i j => if meant ro lo i j = true then keepN c ns i j else c i j
theorem fold_at (c : Cf) (ns : List Int) (ro lo : Option Nat) (i j : Nat) : ∀ (qs : List (Nat × Nat)) (t : Cf), (qs.foldl (stepT c ns ro lo) t) i j = if (i, j) ∈ qs ∧ meant ro lo i j = true then keepN c ns i j else t i j
  | [], t => by simp
  | (a, b) :: qs, t => by
    rw [List.foldl_cons, fold_at c ns ro lo i j qs]
    by_cases h1 : (i, j) ∈ qs ∧ meant ro lo i j = true
    · rw [if_pos h1, if_pos ⟨List.mem_cons_of_mem _ h1.1, h1.2⟩]
    · rw [if_neg h1]
      unfold stepT
      by_cases h2 : i = a ∧ j = b
      · obtain ⟨rfl, rfl⟩ := h2
        by_cases hm : meant ro lo i j = true
        · rw [if_pos hm, if_pos ⟨List.mem_cons_self, hm⟩]
          unfold put2
          rw [if_pos ⟨rfl, rfl⟩]
        · rw [if_neg hm, if_neg fun z => hm z.2]
      · have h3 : ¬ ((i, j) ∈ (a, b) :: qs ∧ meant ro lo i j = true) := fun z => by
          rcases List.mem_cons.mp z.1 with y | y
          · injection y with y1 y2
            exact h2 ⟨y1, y2⟩
          · exact h1 ⟨y, z.2⟩
        rw [if_neg h3]
        by_cases hm : meant ro lo a b = true
        · rw [if_pos hm]
          unfold put2
          rw [if_neg h2]
        · rw [if_neg hm]
theorem mem_pairs {e l i j : Nat} : (i, j) ∈ pairsL e l ↔ i < e ∧ j < l := by
  unfold pairsL
  simp [List.mem_flatMap, List.mem_map]
theorem lessW_ok (o : OkW e l k c) (h : (pairsL e l).any (badP c ns ro lo) = false) : OkW e l k (lessW c ns ro lo) := by
  refine ⟨o.r1, o.r2, o.l1, o.l2, o.k1, o.k2, fun i j hi hj => ?_⟩
  unfold lessW
  by_cases hm : meant ro lo i j = true
  · rw [if_pos hm]
    obtain ⟨_, h2, h3⟩ := o.ok i j hi hj
    refine ⟨fun z => ?_, h2.sublist List.filter_sublist, fun x hx => h3 x (List.mem_filter.mp hx).1⟩
    have hb : badP c ns ro lo (i, j) = true := by
      unfold badP
      rw [hm, decide_eq_true z]
      rfl
    have := List.any_eq_false.mp h (i, j) (mem_pairs.mpr ⟨hi, hj⟩)
    exact this hb
  · rw [if_neg hm]
    exact o.ok i j hi hj
/-- closing, with walkers that are or None, and places that are -/
theorem closing_eq (o : OkW e l k c) (hr : ∀ i, ro = some i → i < e) (hl : ∀ j, lo = some j → j < l) (hn : ns.length ≤ 1000) (hv : ∀ x ∈ ns, 0 ≤ x ∧ x < (k : Int)) (s : S) :
    runS p_Way_closing N_Way_closing.length [wayD e l k c, oD ro, oD lo, .tup (intsD ns)] s = if (pairsL e l).any (badP c ns ro lo) = true then .ex noPl s else .ok (wayD e l k (lessW c ns ro lo)) s := by
  obtain ⟨cl, hcl⟩ : ∃ cl, cl = (rangeI k).filter fun x => decide (x ∈ ns) := ⟨_, rfl⟩
  have hc : ∀ x : Int, 0 ≤ x → x < (k : Int) → (x ∈ cl ↔ x ∈ ns) := fun x h0 h1 => by
    rw [hcl, List.mem_filter, decide_eq_true_eq]
    refine ⟨fun h => h.2, fun h => ⟨?_, h⟩⟩
    unfold rangeI
    rw [List.mem_map]
    exact ⟨x.toNat, List.mem_range.mpr (by omega), by omega⟩
  have chk : ∀ (n : Nat) (op : Option Nat) (b : Nat) (fl : Nat) (ρ : Slots) (s : S), (∀ s, vr n ρ s = .ok (oD op) s) → (∀ s, vr n (allS ρ) s = .ok (oD op) s) → allS ρ = ρ → (∀ i, op = some i → i < b) → (∀ s, b1 (fldF 0 fl) (vr 0) ρ s = .ok (.int (b : Nat)) s) →
      ifS (tst (b2 notNF (vr n) (kst .non))) (dropS (bC (nF 2 (tell P_chk)) (cnsA (vr n) (cnsA (b1 (fldF 0 fl) (vr 0)) nilA)))) nxS ρ s = .ok (.nx ρ) s := fun n op b fl ρ s h1 h2 ha h3 h4 => by
    unfold ifS
    cases op with
    | none =>
      have : tst (b2 notNF (vr n) (kst .non)) (allS ρ) s = .ok false s := by
        unfold tst b2
        rw [h2]
        rfl
      rw [this]
      rfl
    | some a =>
      have : tst (b2 notNF (vr n) (kst .non)) (allS ρ) s = .ok true s := by
        unfold tst b2
        rw [h2]
        rfl
      rw [this]
      show dropS _ ρ s = _
      have hb := h3 a rfl
      unfold dropS bC cnsA
      rw [ha, h1]
      show (R.bind (R.bind (R.bind (R.bind (b1 (fldF 0 fl) (vr 0) ρ s) fun x s => (nilA ρ s).bind fun xs s => R.ok (x :: xs) s) fun xs s => R.ok (D.int (a : Nat) :: xs) s) fun x s => nF 2 (tell P_chk) x s) _ : R Fl) = _
      rw [h4]
      show (R.bind (nF 2 (tell P_chk) [.int (a : Nat), .int (b : Nat)] s) _ : R Fl) = _
      unfold nF
      rw [if_pos (by rfl), chk_eq s (by omega)]
      rfl
  obtain ⟨ρ0, hρ⟩ : ∃ ρ0 : Slots, ρ0 = [.fz (wayD e l k c), .fz (oD ro), .fz (oD lo), .fz (.tup (intsD ns)), .no, .no, .no, .no, .no, .no] := ⟨_, rfl⟩
  have e0 : st0 N_Way_closing.length [wayD e l k c, oD ro, oD lo, .tup (intsD ns)] = ρ0 := hρ.symm ▸ rfl
  unfold runS
  rw [e0, p_closing_eq]
  have s1 : ∀ {F G : Slots → S → R Fl} {ρ ρ' : Slots} {s : S}, F ρ s = .ok (.nx ρ') s → seqS F G ρ s = G ρ' s := fun {F G ρ ρ' s} h => by
    unfold seqS
    rw [h]
    rfl
  rw [s1 (chk 1 ro e 0 ρ0 s (by rw [hρ]; exact fun _ => rfl) (by rw [hρ]; exact fun _ => rfl) (by rw [hρ]; rfl) hr (by rw [hρ]; exact fun _ => rfl)), s1 (chk 2 lo l 1 ρ0 s (by rw [hρ]; exact fun _ => rfl) (by rw [hρ]; exact fun _ => rfl) (by rw [hρ]; rfl) hl (by rw [hρ]; exact fun _ => rfl))]
  subst hρ
  have e4 : setF 4 (metF 0 2 (tell P_places) (vr 0) (cnsA (vr 3) nilA)) [.fz (wayD e l k c), .fz (oD ro), .fz (oD lo), .fz (.tup (intsD ns)), .no, .no, .no, .no, .no, .no] s = .ok (.nx [.fz (wayD e l k c), .fz (oD ro), .fz (oD lo), .fz (.tup (intsD ns)), .fz (.tup (intsD cl)), .no, .no, .no, .no, .no]) s := by
    unfold setF
    show (R.bind (nF 2 (tell P_places) [wayD e l k c, .tup (intsD ns)] s) _ : R Fl) = _
    unfold nF
    rw [if_pos (by rfl), places_eq s o hn hv, ← hcl]
    rfl
  rw [s1 e4]
  have e5 : setF 5 (b1 (fldF 0 3) (vr 0)) [.fz (wayD e l k c), .fz (oD ro), .fz (oD lo), .fz (.tup (intsD ns)), .fz (.tup (intsD cl)), .no, .no, .no, .no, .no] s = .ok (.nx (rC e l k c c ns cl ro lo .no .no .no)) s := rfl
  rw [s1 e5]
  obtain ⟨y6, y7, y8, hlp⟩ := loop_eq (ro := ro) (lo := lo) o hc s (pairsL e l) (fun p hp => mem_pairs.mp hp) c .no .no .no rfl
  have e6 : forS (seqI (bC (nF 1 (tell P_pairs)) (cnsA (vr 0) nilA))) (gT 2 (gsC (gN 6) (gsC (gN 7) gs0))) body_cl (rC e l k c c ns cl ro lo .no .no .no) s =
      if (pairsL e l).any (badP c ns ro lo) = true then .ex noPl s else .ok (.nx (rC e l k c ((pairsL e l).foldl (stepT c ns ro lo) c) ns cl ro lo y6 y7 y8)) s := by
    rw [← hlp]
    unfold forS seqI bC
    show (R.bind (R.bind (nF 1 (tell P_pairs) [wayD e l k c] s) itmF) _ : R Fl) = _
    unfold nF
    rw [if_pos (by rfl), pairs_eq s o]
    rfl
  by_cases hb : (pairsL e l).any (badP c ns ro lo) = true
  · rw [if_pos hb] at e6 ⊢
    unfold seqS
    rw [e6]
    rfl
  · rw [if_neg hb] at e6 ⊢
    rw [s1 e6]
    have hb' : (pairsL e l).any (badP c ns ro lo) = false := Bool.eq_false_iff.mpr hb
    have ht : tabDD e l ((pairsL e l).foldl (stepT c ns ro lo) c) = tabDD e l (lessW c ns ro lo) := by
      unfold tabDD
      rw [tabF_congr fun i j hi hj => ?_]
      rw [fold_at]
      unfold lessW
      by_cases hm : meant ro lo i j = true
      · rw [if_pos ⟨mem_pairs.mpr ⟨hi, hj⟩, hm⟩, if_pos hm]
      · rw [if_neg fun z => hm z.2, if_neg hm]
    unfold retS
    show (R.bind (R.bind (nF 2 (tell P_with) [.int (k : Nat), tabDD e l ((pairsL e l).foldl (stepT c ns ro lo) c)] s) fun d s => R.ok (Fl.rt d) s) endF : R D) = _
    unfold nF
    rw [if_pos (by rfl), ht, with_eq s (lessW_ok o hb')]
    rfl
end
end W2

set_option maxHeartbeats 1000000
/-! PwG: allowing, evaluated; how closing and allowing are called. -/
namespace W2
open PySem PySem.Spec PyProof.Rows L2 Pg Pf LamX Pp Tab Rul
section
variable {e l k : Nat} {c : Cf} {ns : List Int}
/-- the given places, ascending and each once -/
def sortU (k : Nat) (ns : List Int) : List Int := (rangeI k).filter fun x => decide (x ∈ ns)
theorem rangeI_asc (k : Int) : (rangeI k).Pairwise (· < ·) := by
  unfold rangeI
  rw [List.pairwise_map]
  exact List.pairwise_lt_range.imp fun h => by omega
theorem mem_range' {k : Nat} {x : Int} : x ∈ rangeI k ↔ 0 ≤ x ∧ x < (k : Int) := by
  unfold rangeI
  rw [List.mem_map]
  constructor
  · rintro ⟨n, hn, rfl⟩
    have := List.mem_range.mp hn
    omega
  · intro h
    exact ⟨x.toNat, List.mem_range.mpr (by omega), by omega⟩
theorem sortU_cell (hv : ∀ x ∈ ns, 0 ≤ x ∧ x < (k : Int)) (hne : ns ≠ []) : Cell (k : Int) (sortU k ns) := by
  refine ⟨fun z => ?_, (rangeI_asc _).sublist List.filter_sublist, fun x hx => mem_range'.mp (List.mem_filter.mp hx).1⟩
  obtain ⟨x, xs, rfl⟩ := List.exists_cons_of_ne_nil hne
  have : x ∈ sortU k (x :: xs) := List.mem_filter.mpr ⟨mem_range'.mpr (hv x List.mem_cons_self), decide_eq_true List.mem_cons_self⟩
  rw [z] at this
  cases this
theorem sortU_nil (hv : ∀ x ∈ ns, 0 ≤ x ∧ x < (k : Int)) : sortU k ns = [] ↔ ns = [] := by
  constructor
  · intro h
    by_cases hne : ns = []
    · exact hne
    · exact absurd h (sortU_cell hv hne).1
  · rintro rfl
    unfold sortU
    exact List.filter_eq_nil_iff.mpr fun x _ => by simp
theorem put_ok (o : OkW e l k c) {i j : Nat} {v : List Int} (h : Cell (k : Int) v) : OkW e l k (put2 c i j v) := ⟨o.r1, o.r2, o.l1, o.l2, o.k1, o.k2, fun a b ha hb => by
  unfold put2
  by_cases z : a = i ∧ b = j
  · rw [if_pos z]
    exact h
  · rw [if_neg z]
    exact o.ok a b ha hb⟩
theorem allowing_eq (o : OkW e l k c) {i j : Nat} (hi : i < e) (hj : j < l) (hn : ns.length ≤ 1000) (hv : ∀ x ∈ ns, 0 ≤ x ∧ x < (k : Int)) (s : S) :
    runS p_Way_allowing N_Way_allowing.length [wayD e l k c, .int (i : Nat), .int (j : Nat), .tup (intsD ns)] s = if ns = [] then .ex noPl s else .ok (wayD e l k (put2 c i j (sortU k ns))) s := by
  have s1 : ∀ {F G : Slots → S → R Fl} {ρ ρ' : Slots} {s : S}, F ρ s = .ok (.nx ρ') s → seqS F G ρ s = G ρ' s := fun {F G ρ ρ' s} h => by
    unfold seqS
    rw [h]
    rfl
  obtain ⟨ρ0, hρ⟩ : ∃ ρ0 : Slots, ρ0 = [.fz (wayD e l k c), .fz (.int (i : Nat)), .fz (.int (j : Nat)), .fz (.tup (intsD ns)), .no] := ⟨_, rfl⟩
  have e0 : st0 N_Way_allowing.length [wayD e l k c, .int (i : Nat), .int (j : Nat), .tup (intsD ns)] = ρ0 := hρ.symm ▸ rfl
  have c1 : dropS (bC (nF 2 (tell P_chk)) (cnsA (vr 1) (cnsA (b1 (fldF 0 0) (vr 0)) nilA))) ρ0 s = .ok (.nx ρ0) s := by
    rw [hρ]
    show (R.bind (nF 2 (tell P_chk) [.int (i : Nat), .int (e : Nat)] s) _ : R Fl) = _
    unfold nF
    rw [if_pos (by rfl), chk_eq s (by omega)]
    rfl
  have c2 : dropS (bC (nF 2 (tell P_chk)) (cnsA (vr 2) (cnsA (b1 (fldF 0 1) (vr 0)) nilA))) ρ0 s = .ok (.nx ρ0) s := by
    rw [hρ]
    show (R.bind (nF 2 (tell P_chk) [.int (j : Nat), .int (l : Nat)] s) _ : R Fl) = _
    unfold nF
    rw [if_pos (by rfl), chk_eq s (by omega)]
    rfl
  unfold runS p_Way_allowing
  rw [e0, s1 c1, s1 c2]
  subst hρ
  obtain ⟨ρ1, h1⟩ : ∃ ρ1 : Slots, ρ1 = [.fz (wayD e l k c), .fz (.int (i : Nat)), .fz (.int (j : Nat)), .fz (.tup (intsD ns)), .fz (.tup (intsD (sortU k ns)))] := ⟨_, rfl⟩
  have c3 : setF 4 (metF 0 2 (tell P_places) (vr 0) (cnsA (vr 3) nilA)) [.fz (wayD e l k c), .fz (.int (i : Nat)), .fz (.int (j : Nat)), .fz (.tup (intsD ns)), .no] s = .ok (.nx ρ1) s := by
    unfold setF
    show (R.bind (nF 2 (tell P_places) [wayD e l k c, .tup (intsD ns)] s) _ : R Fl) = _
    unfold nF
    rw [if_pos (by rfl), places_eq s o hn hv, h1]
    rfl
  rw [s1 c3]
  have len : (intsD (sortU k ns)).length = (sortU k ns).length := List.length_map _
  have c4 : ifS (tst (b2 eqF (bC lenF (cnsA (vr 4) nilA)) (kst (.int 0)))) (rseS 12 "value" (cnsA (kst .non) nilA)) nxS ρ1 s = if ns = [] then .ex noPl s else .ok (.nx ρ1) s := by
    have t1 : tst (b2 eqF (bC lenF (cnsA (vr 4) nilA)) (kst (.int 0))) ρ1 s = .ok (decide (ns = [])) s := by
      rw [h1]
      unfold tst b2
      show (eqF (.int (((intsD (sortU k ns)).length : Nat) : Int)) (.int 0) s).bind bl' = _
      rw [eqF_int, len]
      show R.ok _ s = _
      congr 1
      rw [Bool.eq_iff_iff, decide_eq_true_eq, decide_eq_true_eq, ← sortU_nil hv]
      cases sortU k ns with
      | nil => simp
      | cons a as =>
        rw [List.length_cons]
        constructor
        · intro h
          omega
        · intro h
          cases h
    unfold ifS
    have ha : allS ρ1 = ρ1 := by rw [h1]; rfl
    rw [ha, t1]
    show (if decide (ns = []) = true then rseS 12 "value" (cnsA (kst .non) nilA) ρ1 s else nxS ρ1 s) = _
    by_cases z : ns = []
    · rw [if_pos (decide_eq_true z), if_pos z]
      rfl
    · rw [if_neg (by rw [decide_eq_true_eq]; exact z), if_neg z]
      rfl
  by_cases z : ns = []
  · rw [if_pos z] at c4 ⊢
    unfold seqS
    rw [c4]
    rfl
  · rw [if_neg z] at c4 ⊢
    rw [s1 c4]
    subst h1
    unfold retS
    show (R.bind (R.bind (R.bind (R.bind (R.bind (nF 4 (tell P_cell) [tabDD e l c, .int (i : Nat), .int (j : Nat), .tup (intsD (sortU k ns))] s) fun x s => R.ok [x] s) fun xs s => R.ok (D.int (k : Nat) :: xs) s) fun x s => nF 2 (tell P_with) x s) fun d s => R.ok (Fl.rt d) s) endF : R D) = _
    unfold nF
    rw [if_pos (by rfl), cell_eq s hi hj o.r2 o.l2]
    show (R.bind (R.bind (if ([D.int (k : Nat), tabDD e l (put2 c i j (sortU k ns))] : List D).length = 2 then tell P_with [.int (k : Nat), tabDD e l (put2 c i j (sortU k ns))] s else .un) fun d s => R.ok (Fl.rt d) s) endF : R D) = _
    rw [if_pos (by rfl), with_eq s (put_ok o (sortU_cell hv z))]
    rfl
end
end W2

set_option maxHeartbeats 1000000
/-! PwH: how closing and allowing bind. -/
namespace W2
open PySem PySem.Spec PyProof.Rows L2 Pg Pf LamX Pp Tab Rul
abbrev fdC (dV kV doc pm : Value) (an : Option Addr) (cdv ct : Value) : FuncData := PySem.W.fnOf "closing" "Way.closing" (defArgs s_Way_closing) (defBody s_Way_closing) (defScope s_Way_closing) dV kV doc pm an cdv ct
abbrev fdA (dV kV doc pm : Value) (an : Option Addr) (cdv ct : Value) : FuncData := PySem.W.fnOf "allowing" "Way.allowing" (defArgs s_Way_allowing) (defBody s_Way_allowing) (defScope s_Way_allowing) dV kV doc pm an cdv ct
abbrev psC : List Str := ["self", "right", "left", "places"]
section
variable {K : PySem.W.Frag} {kV doc pm cdv ct : Value} {an : Option Addr} {Dk : Addr}
def gRL {α : Type} (_ : List α) (zs : List α) : List α := zs
def gLR {α : Type} (_ : List α) (zs : List α) : List α := zs.reverse
def gT2 {α : Type} (vs : List α) (_ : List α) : List α := vs.take 2
def gR (_ : List D) (zs : List D) : List D := zs ++ [.non]
def gL (_ : List D) (zs : List D) : List D := .non :: zs
def gN0 (_ : List D) (_ : List D) : List D := [.non, .non]
theorem vals_rev : ∀ {vs : List L2.V} {us : List Value}, Vals vs us → Vals vs.reverse us.reverse
  | _, _, .nil => .nil
  | _, _, .cons a b => by
    rw [List.reverse_cons, List.reverse_cons]
    exact (vals_rev b).append (.cons a .nil)
theorem vals_take : ∀ (n : Nat) {vs : List L2.V} {us : List Value}, Vals vs us → Vals (vs.take n) (us.take n)
  | 0, _, _, _ => .nil
  | n + 1, _, _, .nil => .nil
  | n + 1, _, _, .cons a b => .cons a (vals_take n b)
variable {Z : Zn} {G : Hp} {vs zs : List L2.V} {ds es : List D}
theorem dg_rl (_ : DvA K Z G vs ds) (h : DvA K Z G zs es) : DvA K Z G (gRL vs zs) (gRL ds es) := h
theorem dg_lr (_ : DvA K Z G vs ds) (h : DvA K Z G zs es) : DvA K Z G (gLR vs zs) (gLR ds es) := h.rev
theorem dg_t (h : DvA K Z G vs ds) (_ : DvA K Z G zs es) : DvA K Z G (gT2 vs zs) (gT2 ds es) := h.take 2
theorem dg_r (_ : DvA K Z G vs ds) (h : DvA K Z G zs es) : DvA K Z G (zs ++ [.non]) (gR ds es) := h.snoc .non
theorem dg_l (_ : DvA K Z G vs ds) (h : DvA K Z G zs es) : DvA K Z G (.non :: zs) (gL ds es) := .cons .non h
theorem dg_n (_ : DvA K Z G vs ds) (_ : DvA K Z G zs es) : DvA K Z G [.non, .non] (gN0 ds es) := .cons .non (.cons .non .nil)
theorem bd_rl0 : BdS K (fdC .none (.ref Dk) doc pm an cdv ct) psC ["right", "left"] 0 0 "places" gRL gRL Dk [] where
  nk := fun q hq => by cases hq
  eq := fun u0 us ws h1 h2 => match us, ws, h1, h2 with
    | [], [_, _], _, _ => rfl
  rel := fun _ _ _ r => r
  len := fun vs zs _ h => by
    show zs.length + 2 = 4
    rw [h]
    rfl
theorem bd_rl1 : BdS K (fdC .none (.ref Dk) doc pm an cdv ct) psC ["right", "left"] 1 0 "places" gRL gRL Dk [] where
  nk := fun q hq => by cases hq
  eq := fun u0 us ws h1 h2 => match us, ws, h1, h2 with
    | [_], [_, _], _, _ => rfl
  rel := fun _ _ _ r => r
  len := fun vs zs _ h => by
    show zs.length + 2 = 4
    rw [h]
    rfl
theorem bd_rl2 : BdS K (fdC .none (.ref Dk) doc pm an cdv ct) psC ["right", "left"] 2 0 "places" gRL gRL Dk [] where
  nk := fun q hq => by cases hq
  eq := fun u0 us ws h1 h2 => match us, ws, h1, h2 with
    | [_, _], [_, _], _, _ => rfl
  rel := fun _ _ _ r => r
  len := fun vs zs _ h => by
    show zs.length + 2 = 4
    rw [h]
    rfl
theorem bd_rl3 : BdS K (fdC .none (.ref Dk) doc pm an cdv ct) psC ["right", "left"] 3 0 "places" gRL gRL Dk [] where
  nk := fun q hq => by cases hq
  eq := fun u0 us ws h1 h2 => match us, ws, h1, h2 with
    | [_, _, _], [_, _], _, _ => rfl
  rel := fun _ _ _ r => r
  len := fun vs zs _ h => by
    show zs.length + 2 = 4
    rw [h]
    rfl
theorem bd_rl4 : BdS K (fdC .none (.ref Dk) doc pm an cdv ct) psC ["right", "left"] 4 0 "places" gRL gRL Dk [] where
  nk := fun q hq => by cases hq
  eq := fun u0 us ws h1 h2 => match us, ws, h1, h2 with
    | [_, _, _, _], [_, _], _, _ => rfl
  rel := fun _ _ _ r => r
  len := fun vs zs _ h => by
    show zs.length + 2 = 4
    rw [h]
    rfl
theorem bd_lr0 : BdS K (fdC .none (.ref Dk) doc pm an cdv ct) psC ["left", "right"] 0 0 "places" gLR gLR Dk [] where
  nk := fun q hq => by cases hq
  eq := fun u0 us ws h1 h2 => match us, ws, h1, h2 with
    | [], [_, _], _, _ => rfl
  rel := fun _ _ _ r => vals_rev r
  len := fun vs zs _ h => by
    show zs.reverse.length + 2 = 4
    rw [List.length_reverse, h]
    rfl
theorem bd_lr1 : BdS K (fdC .none (.ref Dk) doc pm an cdv ct) psC ["left", "right"] 1 0 "places" gLR gLR Dk [] where
  nk := fun q hq => by cases hq
  eq := fun u0 us ws h1 h2 => match us, ws, h1, h2 with
    | [_], [_, _], _, _ => rfl
  rel := fun _ _ _ r => vals_rev r
  len := fun vs zs _ h => by
    show zs.reverse.length + 2 = 4
    rw [List.length_reverse, h]
    rfl
theorem bd_n0 (kwR : PySem.W.nsIn K Dk "right" = some (some .none)) (kwL : PySem.W.nsIn K Dk "left" = some (some .none)) : BdS K (fdC .none (.ref Dk) doc pm an cdv ct) psC [] 0 0 "places" (fun _ _ => [.none, .none]) (fun _ _ => [.non, .non]) Dk [("right", .none), ("left", .none)] where
  nk := fun q hq => by
    rcases List.mem_cons.mp hq with rfl | hq
    · exact kwR
    · rw [List.mem_singleton.mp hq]
      exact kwL
  eq := fun u0 us ws h1 h2 => match us, ws, h1, h2 with
    | [], [], _, _ => ⟨_, _, _, _, _, _, rfl, rfl, _, _, _, _, _, _, rfl, rfl, rfl⟩
  rel := fun _ _ _ _ => .cons rfl (.cons rfl .nil)
  len := fun vs zs _ h => rfl
theorem bd_n12 (kwR : PySem.W.nsIn K Dk "right" = some (some .none)) (kwL : PySem.W.nsIn K Dk "left" = some (some .none)) : BdS K (fdC .none (.ref Dk) doc pm an cdv ct) psC [] 12 0 "places" (fun _ _ => [.none, .none]) (fun _ _ => [.non, .non]) Dk [("right", .none), ("left", .none)] where
  nk := fun q hq => by
    rcases List.mem_cons.mp hq with rfl | hq
    · exact kwR
    · rw [List.mem_singleton.mp hq]
      exact kwL
  eq := fun u0 us ws h1 h2 => match us, ws, h1, h2 with
    | [_, _, _, _, _, _, _, _, _, _, _, _], [], _, _ => ⟨_, _, _, _, _, _, rfl, rfl, _, _, _, _, _, _, rfl, rfl, rfl⟩
  rel := fun _ _ _ _ => .cons rfl (.cons rfl .nil)
  len := fun vs zs _ h => rfl
theorem bd_r0 (kwR : PySem.W.nsIn K Dk "right" = some (some .none)) (kwL : PySem.W.nsIn K Dk "left" = some (some .none)) : BdS K (fdC .none (.ref Dk) doc pm an cdv ct) psC ["right"] 0 0 "places" (fun _ ws => ws ++ [.none]) (fun _ zs => zs ++ [.non]) Dk [("left", .none)] where
  nk := fun q hq => by
    rw [List.mem_singleton.mp hq]
    exact kwL
  eq := fun u0 us ws h1 h2 => match us, ws, h1, h2 with
    | [], [_], _, _ => ⟨_, _, _, _, _, _, rfl, rfl, rfl⟩
  rel := fun _ _ _ r => r.append (.cons rfl .nil)
  len := fun vs zs _ h => by
    show (zs ++ [L2.V.non]).length + 2 = 4
    rw [List.length_append, h]
    rfl
theorem bd_r1 (kwR : PySem.W.nsIn K Dk "right" = some (some .none)) (kwL : PySem.W.nsIn K Dk "left" = some (some .none)) : BdS K (fdC .none (.ref Dk) doc pm an cdv ct) psC ["right"] 1 0 "places" (fun _ ws => ws ++ [.none]) (fun _ zs => zs ++ [.non]) Dk [("left", .none)] where
  nk := fun q hq => by
    rw [List.mem_singleton.mp hq]
    exact kwL
  eq := fun u0 us ws h1 h2 => match us, ws, h1, h2 with
    | [_], [_], _, _ => ⟨_, _, _, _, _, _, rfl, rfl, rfl⟩
  rel := fun _ _ _ r => r.append (.cons rfl .nil)
  len := fun vs zs _ h => by
    show (zs ++ [L2.V.non]).length + 2 = 4
    rw [List.length_append, h]
    rfl
theorem bd_l11 (kwR : PySem.W.nsIn K Dk "right" = some (some .none)) (kwL : PySem.W.nsIn K Dk "left" = some (some .none)) : BdS K (fdC .none (.ref Dk) doc pm an cdv ct) psC ["left"] 11 0 "places" (fun _ ws => .none :: ws) (fun _ zs => .non :: zs) Dk [("right", .none)] where
  nk := fun q hq => by
    rw [List.mem_singleton.mp hq]
    exact kwR
  eq := fun u0 us ws h1 h2 => match us, ws, h1, h2 with
    | [_, _, _, _, _, _, _, _, _, _, _], [_], _, _ => ⟨_, _, _, _, _, _, rfl, rfl, rfl⟩
  rel := fun _ _ _ r => .cons rfl r
  len := fun vs zs _ h => by
    show zs.length + 1 + 2 = 4
    rw [h]
    rfl
theorem ba_2 : BdS K (fdA .none kV doc pm an cdv ct) psC [] 2 2 "places" gT2 gT2 0 [] where
  nk := fun q hq => by cases hq
  eq := fun u0 us ws h1 h2 => match us, ws, h1, h2 with
    | [_, _], [], _, _ => rfl
  rel := fun _ _ r _ => vals_take 2 r
  len := fun vs zs h _ => by
    show (vs.take 2).length + 2 = 4
    rw [List.length_take, h]
    rfl
theorem ba_3 : BdS K (fdA .none kV doc pm an cdv ct) psC [] 3 2 "places" gT2 gT2 0 [] where
  nk := fun q hq => by cases hq
  eq := fun u0 us ws h1 h2 => match us, ws, h1, h2 with
    | [_, _, _], [], _, _ => rfl
  rel := fun _ _ r _ => vals_take 2 r
  len := fun vs zs h _ => by
    show (vs.take 2).length + 2 = 4
    rw [List.length_take, h]
    rfl
theorem ba_4 : BdS K (fdA .none kV doc pm an cdv ct) psC [] 4 2 "places" gT2 gT2 0 [] where
  nk := fun q hq => by cases hq
  eq := fun u0 us ws h1 h2 => match us, ws, h1, h2 with
    | [_, _, _, _], [], _, _ => rfl
  rel := fun _ _ r _ => vals_take 2 r
  len := fun vs zs h _ => by
    show (vs.take 2).length + 2 = 4
    rw [List.length_take, h]
    rfl
theorem ba_5 : BdS K (fdA .none kV doc pm an cdv ct) psC [] 5 2 "places" gT2 gT2 0 [] where
  nk := fun q hq => by cases hq
  eq := fun u0 us ws h1 h2 => match us, ws, h1, h2 with
    | [_, _, _, _, _], [], _, _ => rfl
  rel := fun _ _ r _ => vals_take 2 r
  len := fun vs zs h _ => by
    show (vs.take 2).length + 2 = 4
    rw [List.length_take, h]
    rfl
theorem ba_6 : BdS K (fdA .none kV doc pm an cdv ct) psC [] 6 2 "places" gT2 gT2 0 [] where
  nk := fun q hq => by cases hq
  eq := fun u0 us ws h1 h2 => match us, ws, h1, h2 with
    | [_, _, _, _, _, _], [], _, _ => rfl
  rel := fun _ _ r _ => vals_take 2 r
  len := fun vs zs h _ => by
    show (vs.take 2).length + 2 = 4
    rw [List.length_take, h]
    rfl
theorem ba_11 : BdS K (fdA .none kV doc pm an cdv ct) psC [] 11 2 "places" gT2 gT2 0 [] where
  nk := fun q hq => by cases hq
  eq := fun u0 us ws h1 h2 => match us, ws, h1, h2 with
    | [_, _, _, _, _, _, _, _, _, _, _], [], _, _ => rfl
  rel := fun _ _ r _ => vals_take 2 r
  len := fun vs zs h _ => by
    show (vs.take 2).length + 2 = 4
    rw [List.length_take, h]
    rfl
theorem ba_14 : BdS K (fdA .none kV doc pm an cdv ct) psC [] 14 2 "places" gT2 gT2 0 [] where
  nk := fun q hq => by cases hq
  eq := fun u0 us ws h1 h2 => match us, ws, h1, h2 with
    | [_, _, _, _, _, _, _, _, _, _, _, _, _, _], [], _, _ => rfl
  rel := fun _ _ r _ => vals_take 2 r
  len := fun vs zs h _ => by
    show (vs.take 2).length + 2 = 4
    rw [List.length_take, h]
    rfl
theorem ba_lr : BdS K (fdA .none kV doc pm an cdv ct) psC ["left", "right"] 0 2 "places" gLR gLR 0 [] where
  nk := fun q hq => by cases hq
  eq := fun u0 us ws h1 h2 => match us, ws, h1, h2 with
    | [], [_, _], _, _ => rfl
  rel := fun _ _ _ r => vals_rev r
  len := fun vs zs _ h => by
    show zs.reverse.length + 2 = 4
    rw [List.length_reverse, h]
    rfl
end
end W2

namespace W2
open PySem PySem.Spec PyProof.Rows L2 Pg Pf
/-- an exception that was caught: its class, its dict -/
def XO (cls : Value) (d : Option Addr) (a : Addr) : HO := .ext fun h => ∃ (oe : Obj) (vs : Array Value), h.get? a = some oe ∧ Zc cls d oe ∧ oe.data = .fields vs
theorem xo_ok {P : Program} {w : World} {H : Hp} {h : Heap} {a : Addr} {cls : Value} {d : Option Addr} {oe : Obj} {vs : Array Value} (e : h.get? a = some oe) (z : Zc cls d oe) (f : oe.data = .fields vs) : ObjOk P w H h a (XO cls d a) :=
  ⟨⟨oe, vs, e, z, f⟩, ⟨oe, e⟩, fun _ _ ⟨o, v, q, r⟩ k => ⟨o, v, k o q, r⟩⟩
section
variable {X : Cx} {pins : List (Addr × Obj)} {σ : L2.St} {H : Hp} {s : Shared}
/-- an object that is not of the entry's heap is tracked from now on -/
theorem hold {a : Addr} {o : HO} (I : Inv X pins σ H s) (na : H a = none) (new : X.s_0.heap.get? a = none) (nL : a ≠ X.env.locals) (nC : ∀ x c, X.env.cells.lookup x = some c → c ≠ a) (nP : ∀ p ∈ X.pn ++ pins, p.1 ≠ a) (ok : ObjOk X.prog X.w (upd H a o) s.heap a o) : Inv X pins σ (upd H a o) s := by
  have off : ∀ {b : Addr}, b ≠ a → upd H a o b = H b := fun n => upd_ne n
  have old : ∀ {b : Addr} {u : HO}, H b = some u → upd H a o b = some u := fun {b u} e => by rw [off (ne_of_none e na)]; exact e
  refine { ok := I.ok, os := I.os, bare := I.bare, base := ?_, loc := I.loc, cell := I.cell, free := ?_, freeC := fun x c e => ?_, pin := fun p hp => ?_, hok := ?_, len := I.len }
  · have u := I.base
    refine { keep := u.keep, slot := u.slot, free := fun b v e n x => ?_, there := u.there, tups := fun b xs e => old (u.tups b xs e), frzs := fun b v y e => old (u.frzs b v y e), tbls := fun b ps e => ?_ }
    · rw [off fun z => by rw [z, new] at e; cases e]
      exact u.free b v e n x
    · obtain ⟨more, e2⟩ := u.tbls b ps e
      exact ⟨more, old e2⟩
  · rw [off nL.symm]
    exact I.free
  · rw [off (nC x c e)]
    exact I.freeC x c e
  · obtain ⟨q1, q2, q3⟩ := I.pin p hp
    refine ⟨q1, ?_, q3⟩
    rw [off (nP p hp)]
    exact q2
  · intro b v e
    by_cases z : b = a
    · subst z
      rw [upd_same] at e
      obtain rfl := Option.some.inj e
      exact ok
    · rw [off z] at e
      exact (I.hok b v e).stay (fun _ _ _ y => y) (fun c y => old y) fun c xs y => old y
/-- reading a field of such an exception -/
def tXo (C : Addr) (f : Str) (te : TE) : TE := fun σ H Q => te σ H fun x H1 => ∃ (a dd : Addr) (fs : List (Str × V)) (v : V), x = .ref a ∧ H1 a = some (XO (.ref C) (some dd) a) ∧ H1 dd = some (.xd fs) ∧ fs.lookup f = some v ∧ Q v H1
theorem pe_xo {C : Addr} {e : Expr} {te : TE} {pos : Pos} {n : Str} (T : XfC X.K C) (hno : PySem.W.findIn X.K (.ref C) n = some none) (he : PE X e te) (hb : attributeBase e n X.env (eval e X.env) = eval e X.env := by rfl) : PE X (.Attribute e n pos) (tXo C n te) := by
  refine ⟨fun pins s σ H Q I h => ?_⟩
  refine attr_of hb (thn (he.run pins s σ H _ I h) fun u s1 ⟨x, H1, I1, rx, a, dd, fs, v, ex, ea, ed, l, q⟩ => ?_)
  subst ex
  obtain rfl : u = Value.ref a := rx
  obtain ⟨⟨oe, vs, g, z, f⟩, _, _⟩ := (show ObjOk X.prog X.w H1 s1.heap a (XO (.ref C) (some dd) a) from I1.hok a _ ea)
  obtain ⟨mA, hns, rel⟩ := (show ObjOk X.prog X.w H1 s1.heap dd (.xd fs) from I1.hok dd _ ed)
  obtain ⟨od, ho, look⟩ := lookIn_ns hns
  obtain ⟨y, hy, ry⟩ := RelO.some_of (v := v) (o := mA n) (by rw [← l]; exact rel n)
  have inst : PySem.W.InstAt s1.heap a oe C (some od) := ⟨g, z.1, by unfold PySem.W.notCls; rw [f] <;> rfl, by rw [z.2]; exact ho⟩
  exact HandSPX.exc_get I1.kIn inst T.ga T.gg T.exC (PySem.W.findObj_own T.hdC hno rfl (by rw [look, hy])) (handed_of ry) ⟨v, H1, I1.tok _, ry, q⟩
end
end W2

namespace W2
open PySem PySem.Spec PyProof.Rows L2 Pg Pf
/-- except c as n, where nothing but c comes: the suite ts, with the exception tracked, also behind the suite; n stands at slot i and is gone then -/
def wKeep (K : PySem.W.Frag) (c : Value) (i : Nat) (ts : Addr → Value → Option Addr → TS) (D : Ends) : WX := fun cls d σ H => PySem.W.exmOne K cls c = some true ∧
  ∀ a, H a = none → ts a cls d { nx := fun σ' H' => D.nx (σ'.set i none) H', rt := D.rt, bk := fun σ' H' => D.bk (σ'.set i none) H', ct := fun σ' H' => D.ct (σ'.set i none) H' } (σ.set i (some (.ref a))) (upd H a (XO cls d a))
section
variable {X : Cx} {x n : Str} {c : Value} {i : Nat} {body suite : List Stmt} {b₀ : Stmt} {np pos pos' : Pos} {tb : WX → TS} {ts : Addr → Value → Option Addr → TS}
theorem ps_keep (hex : X.ex = []) (hs : X.stack = X.env :: X.outer) (hf : X.env.frame = some X.env.locals) (hN : X.N.Nodup) (hi : X.N[i]? = some n) (hln : X.env.kindOf n = some .local) (hc : Names X x c)
    (hb : ∀ (W : WX) (pn : List (Addr × Obj)) (xe : Value → Shared → Prop), Takes (X.tr pn xe) W → PassesOwn (model X.prog X.w) X.A X.env xe → PSs (X.tr pn xe) body (tb W))
    (hsu : ∀ (a : Addr) (cls : Value) (d : Option Addr) (pn : List (Addr × Obj)), PSs (X.suite a pn) (b₀ :: suite) (ts a cls d)) :
    PS X (.Try body [.ExceptHandler (some (.Name x np)) (some n) (b₀ :: suite) pos'] [] [] pos) (fun D σ H => tb (wKeep X.K c i ts D) D σ H) := by
  refine ⟨fun pins s σ H D I h => wpAny_Try_except ?_⟩
  have ok := I.ok
  have top : X.A.frames = some (X.env :: X.outer) := by rw [ok.frames, hs]
  have home : Loc X.env.scope n := .inl hln
  refine wpAny_mono ((hb (wKeep X.K c i ts D) (X.pn ++ pins) (fun e y1 => wpAny (model X.prog X.w) X.A (noteFrame e X.env) (fun _ y2 => wpAny (model X.prog X.w) X.A (setFlight e none) (fun _ y3 => wpAny (model X.prog X.w) X.A (handleBy e X.env [.ExceptHandler (some (.Name x np)) (some n) (b₀ :: suite) pos']) (SP X pins D) X.xe y3) X.xe y2) X.xe y1) (fun u z xx => ?_) PassesOwn.looking).run [] s σ H D (I.toTry _) h) (fun fl z q => ?_) (fun _ _ y => y)
  · obtain ⟨a, B, sI, pq, σ1, H1, cls, d, rfl, JJ, nb, up, sky, na, os, ag, hm, yes⟩ := xx
    have J : Inv X pins σ1 H1 sI := JJ.ofTry ok
    have sky1 : Sky B (X.env :: X.outer) a (Zc cls d) X.env.locals z.heap := by rw [← hs]; exact sky
    refine Sky.land Zc.steady top hf sky1 fun g3 fly3 up3 => ?_
    have J3 : Inv X pins σ1 H1 { z with heap := g3 } := J.landed nb fly3.1 (up.trans up3) os ag
    obtain ⟨o3, v3, at3, z3, f3⟩ := fly3.there
    -- the exception is no frame, and not of the entry's heap
    have nofr : a ∉ frs (X.env :: X.outer) := fun m => by
      obtain ⟨_, oo, eo, hnf⟩ := fly3.2.2.1.mem m
      rw [at3] at eo
      cases eo
      exact hnf _ f3
    have nL : a ≠ X.env.locals := fun y => nofr (List.mem_filterMap.mpr ⟨X.env, List.mem_cons_self, by rw [hf, y]⟩)
    have nF : a ∉ X.fs := fun m => by
      obtain ⟨ee, hee, y⟩ := List.mem_filterMap.mp m
      exact nofr (List.mem_filterMap.mpr ⟨ee, List.mem_cons_of_mem _ hee, y⟩)
    have notI : sI.heap.get? a = none := by
      cases y : sI.heap.get? a with
      | none => rfl
      | some o =>
        have y2 := nb a o y (by rw [hs]; exact nofr)
        rw [fly3.2.1] at y2
        cases y2
    have not0 : X.s_0.heap.get? a = none := by
      cases y : X.s_0.heap.get? a with
      | none => rfl
      | some o =>
        obtain ⟨o2, y2⟩ := J.base.there a o y (by rw [hex]; simp)
        rw [notI] at y2
        cases y2
    have nC : ∀ y k, X.env.cells.lookup y = some k → k ≠ a := fun y k e q => by
      obtain ⟨v, o, ho, _⟩ := J.cell y k e
      rw [q, notI] at ho
      cases ho
    have nP : ∀ p ∈ X.pn ++ pins, p.1 ≠ a := fun p hp q => by
      have y := (J.pin p hp).1
      rw [q, notI] at y
      cases y
    have S3 := J3.suite at3 f3 na nL nF
    refine wpAny_handleBy_cons (codeAny_handlers_test ?_) (by intro y; cases y)
    have kind : PySem.W.Looks (model X.prog X.w) g3 (typeOf (.ref a)) cls := fun A Q E y k q => wpAny_typeOf_ref (k _ _ at3) (by rw [z3.1]; exact q)
    have match_ := PySem.W.exm_one (M := model X.prog X.w) (J3.kIn) kind hm
    have named : ∀ {Q : Value → Shared → Prop} {E : Value → Shared → Prop}, Q c { z with heap := g3 } → wpAny (model X.prog X.w) (X.A.mark (some (.ref a))) (eval (.Name x np) X.env) Q E { z with heap := g3 } := fun {Q E} y => by
      obtain ⟨w1, w2, w3 | ⟨w3, w4, w5⟩⟩ := hc
      · exact ld_glob (X := X.suite a ((a, o3) :: (X.pn ++ pins))) S3 w1 w3 y w2
      · exact ld_blt (X := X.suite a ((a, o3) :: (X.pn ++ pins))) S3 w1 w3 w4 y w5 w2
    refine named (match_.here ?_)
    refine codeAny_handlers_suite_as (HandSPX.lands_againZ fly3 fun g4 fly4 up4 => ?_)
    obtain ⟨o4, v4, at4, z4, f4⟩ := fly4.there
    have J4 : Inv X pins σ1 H1 { z with heap := g4 } := J.landed nb fly4.1 ((up.trans up3).trans up4) os ag
    have J5 : Inv X pins σ1 (upd H1 a (XO cls d a)) { z with heap := g4 } := hold J4 na not0 nL nC nP (xo_ok at4 z4 f4)
    have S5 : Inv (X.suite a (X.pn ++ pins)) [] σ1 (upd H1 a (XO cls d a)) { z with heap := g4 } := { ok := ok.suite _ _, os := J5.os, bare := J5.bare, base := J5.base, loc := J5.loc, cell := J5.cell, free := J5.free, freeC := J5.freeC, pin := fun p hp => J5.pin p (by rw [List.append_nil] at hp; exact hp), hok := J5.hok, len := J5.len }
    refine store_ok (X := X.suite a (X.pn ++ pins)) (v := .ref a) S5 hN hi home rfl (fun y5 S6 => ?_) (.inr hln)
    refine wpAny_mono ((hsu a cls d (X.pn ++ pins)).run [] y5 _ _ _ S6 (yes a na)) (fun fl y6 q => ?_) (fun _ _ y => False.elim y)
    have gone : ∀ {σ6 : L2.St} {H6 : Hp} {Q : Shared → Prop}, Inv (X.suite a (X.pn ++ pins)) [] σ6 H6 y6 → (∀ y7, Inv X pins (σ6.set i none) H6 y7 → Q y7) → wpAny (model X.prog X.w) X.A (do bindName X.env n .none; unbindBehindTheSuite X.env n pos') (fun _ y7 => Q y7) X.xe y6 := fun {σ6 H6 Q} R hq =>
      gone_ok (X := X) (pins := pins) { ok := ok, os := R.os, bare := R.bare, base := R.base, loc := R.loc, cell := R.cell, free := R.free, freeC := R.freeC, pin := fun p hp => R.pin p (by rw [List.append_nil]; exact hp), hok := R.hok, len := R.len } hN hi hln hq
    match fl, q with
    | .next, ⟨σ6, H6, R, q6⟩ => exact gone R fun y7 J7 => ⟨_, _, J7, q6⟩
    | .brk, ⟨σ6, H6, R, q6⟩ => exact gone R fun y7 J7 => ⟨_, _, J7, q6⟩
    | .cont, ⟨σ6, H6, R, q6⟩ => exact gone R fun y7 J7 => ⟨_, _, J7, q6⟩
    | .ret u, ⟨v6, σ6, H6, R, r6, q6⟩ => exact gone R fun y7 J7 => ⟨_, _, _, J7, r6, q6⟩
  · match fl, q with
    | .next, ⟨σ1, H1, R, y⟩ => exact wpAny_execs_nil ⟨σ1, H1, R.ofTry ok, y⟩
    | .brk, ⟨σ1, H1, R, y⟩ => exact ⟨σ1, H1, R.ofTry ok, y⟩
    | .cont, ⟨σ1, H1, R, y⟩ => exact ⟨σ1, H1, R.ofTry ok, y⟩
    | .ret u, ⟨v, σ1, H1, R, r, y⟩ => exact ⟨v, σ1, H1, R.ofTry ok, r, y⟩
end
end W2

/-! PwL: _law_table_of, and a lambda that is handed to it. -/
namespace W2
open PySem PySem.Spec PyProof.Rows L2 Pg Pf LamX Pp Tab Rul
theorem takes_len {X : Cx} {W : WX} (tk : Takes X W) : Takes X (fun cls d σ H => σ.length = X.N.length → W cls d σ H) := fun u s' ⟨a, B, sI, pins, σ, H, cls, d, e, I, nb, up, sky, na, os, ag, w⟩ => tk u s' ⟨a, B, sI, pins, σ, H, cls, d, e, I, nb, up, sky, na, os, ag, w I.len⟩
abbrev s__law_table_of : Stmt := top 28
abbrev N__law_table_of : List Str := ["_law_call", "_law_error", "_law_found", "_law_e"]
theorem sc__law_table_of : FnScope N__law_table_of ["_law_call"] (defScope s__law_table_of) := ⟨rfl, rfl, rfl, by decide +kernel, rfl, by decide +kernel, by decide +kernel⟩
/-- what is made of an error: a list of its value -/
def EVal (CE : Addr) (fld : Str) (Q : VK) : XK := fun cls d H' => cls = .ref CE ∧ ∃ (dd : Addr) (v : V), d = some dd ∧ H' dd = some (.xd [(fld, v)]) ∧ ∀ a p, H' a = none → (upd H' a (XO (.ref CE) (some dd) a)) p = none → Q (.ref p) (upd (upd H' a (XO (.ref CE) (some dd) a)) p (.lst [v]))
/-- .. of a way: its table -/
def KTab (C : Addr) (Q : VK) (v : V) (H' : Hp) : Prop := ∃ (a dx : Addr) (fs : List (Str × V)) (u : V), v = .ref a ∧ H' a = some (.ins C dx fs) ∧ fs.lookup ("_table" : Str) = some u ∧ Q u H'
def TTab (C CE : Addr) : (XK → Hp → VK → Prop) → Hp → VK → Prop := fun tl H Q => ∀ (E : XK) (N : VK), (∀ v H', KTab C Q v H' → N v H') → (∀ cls d H', EVal CE "value" Q cls d H' → E cls d H') → tl E H N
theorem ttab_use {C CE : Addr} {tl : XK → Hp → VK → Prop} {H : Hp} {Q N : VK} {W : WX} {p1 p2 : Prop} (h : TTab C CE tl H Q) (a : p1) (b : p2) (hN : ∀ v H', KTab C Q v H' → N v H') (hE : ∀ cls d H', EVal CE "value" Q cls d H' → ∀ σ' : L2.St, σ'.length = 4 → W cls d σ' H') :
    ∃ Ech : XK, (∀ cls d σ' H', Ech cls d H' → σ'.length = 4 → W cls d σ' H') ∧ p1 ∧ p2 ∧ tl Ech H N := ⟨fun cls d H' => ∀ σ' : L2.St, σ'.length = 4 → W cls d σ' H', fun _ _ σ' _ e hl => e σ' hl, a, b, h _ _ hN hE⟩
theorem table_gives {X : Cx} {q : Str} {g C CE : Addr} {cdg : Value} (T : XfC X.K CE) (hno : PySem.W.findIn X.K (.ref CE) "value" = some none) (gE : X.mg "InvalidPlaces" = some (.ref CE)) (hm : PySem.W.exmOne X.K (.ref CE) (.ref CE) = some true)
    (pT : Pr X.prog X.w X.K X.mg X.base C "table" "_table") (hr : Room 5 X.A) :
    LamX.GivesTo X N__law_table_of "_law_table_of" (defScope s__law_table_of) g cdg (defBody s__law_table_of) "_law_call" q (TTab C CE) := by
  intro f c' s H Q tl act hc h
  have nd := sc__law_table_of.nd
  have hr' : Room 4 ((cxOf C8.CX0 X.prog X.w X.K X.mg X.base N__law_table_of "_law_table_of" (defScope s__law_table_of) g cdg X.A X.stack s H C8.E0).nox).A := hr.deeper _
  refine ⟨_, pss_cons (ps_set (i := 1) nd rfl (Or.inl rfl) pe_non)
    (pss_cons (ps_set (i := 2) nd rfl (Or.inl rfl) pe_non)
    (pss_cons (ps_keep (i := 3) (c := .ref CE) (tb := fun W D σ H => ∃ Ech : XK, (∀ cls d σ' H', Ech cls d H' → σ'.length = 4 → W cls d σ' H') ∧ σ[0]? = some (some (.ref f)) ∧ H c' = some (LamX.CodeO c' q) ∧ tl Ech H fun v H' => D.nx (σ.set 2 (some v)) H') (ts := fun a cls d => tAsg (tVar 3) (gName 1)) rfl rfl rfl nd rfl rfl ⟨rfl, by decide, .inl gE⟩ (fun W pn xe tk _ => ?_) (fun a cls d pn => pss_one (ps_set (i := 1) nd rfl (Or.inl rfl) (pv 3))))
    (pss_one (ps_ret (pe_ifExp (pt_cmpR op_isN (pv 1) pe_non (nomark _)) (pe_pr pT hr' (by decide) (pv 2)) (pe_lst (pa_cons (pe_xo T hno (pv 1)) pa_nil))))))), ?_⟩
  · refine ⟨fun pins s' σ H' D I h' => ?_⟩
    obtain ⟨Ech, hW, h1, h2, h3⟩ := h'
    exact (pss_one (ps_set (i := 2) nd rfl (Or.inl rfl) (act (fun cls d σ H => σ.length = 4 → W cls d σ H) pn xe Ech _ _ (takes_len tk) hW))).run pins s' σ H' D I ⟨h1, h2, h3⟩
  · refine ttab_use h rfl hc (fun v H' k => ?_) (fun cls d H' hE σ' hl => ?_)
    · obtain ⟨a, dx, fs, u, rfl, ha, hf, k⟩ := k
      refine ⟨_, rfl, rfl, _, rfl, ?_⟩
      rw [decide_eq_true rfl]
      exact iteT ⟨_, rfl, a, dx, fs, rfl, ha, a, dx, fs, u, rfl, ha, hf, k⟩
    · obtain ⟨ecls, dd, v, ed, hd, k⟩ := hE
      subst ecls ed
      refine ⟨hm, fun a na => ?_⟩
      match σ', hl with
      | [v0, v1, v2, v3], _ =>
        refine ⟨_, rfl, ?_⟩
        refine ⟨_, rfl, rfl, _, rfl, ?_⟩
        rw [decide_eq_false (by intro z; cases z)]
        refine iteF ?_
        refine ⟨_, rfl, a, dd, [("value", v)], v, rfl, upd_same, ?_, rfl, (by show 1 ≤ sizeLine; decide), fun p hp => k a p na hp⟩
        rw [upd_ne (ne_of_none hd na)]
        exact hd
/-- .. as a function on answers -/
def tabO (d : D) (s : S) : R D := match d with
  | .obj c [_, _, _, t] => if c = 0 then .ok t s else .un
  | _ => .un
def tabX (e : Exc) (s : S) : R D := match e.ds with
  | [v] => if e.c = 12 ∧ e.ns = [("value" : Str)] then .ok (.lst [v]) s else .un
  | _ => .un
def tabR : R D → R D
  | .ok d s => tabO d s
  | .ex e s => tabX e s
  | .un => .un
  | .dr t f => .dr t fun i => tabR (f i)
  | .an P f => .an P fun d s => tabR (f d s)
theorem wd_ext {T : List (Addr × Str)} {s : S} {V H H' : Hp} (w : Wd T V H s) (x : ExtN H H') (t : Tabs T H') : Nx s s V H V H' ∧ Wd T V H' s := by
  refine ⟨⟨rfl, Same.refl _, fun p o e n _ => x p o e n, fun p e => .inl e, fun p e => ?_⟩, ⟨fun p o e => x p o (w.sv p o e) fun ps z => w.nt p ps (z ▸ e), w.nt, t, ?_⟩⟩
  · cases z : H p with
    | none => exact .inl z
    | some o =>
      by_cases n : ∃ ps, o = .tbl ps
      · obtain ⟨ps, rfl⟩ := n
        exact .inr ⟨ps, z⟩
      · exact absurd rfl (fre_ne (x p o z fun ps y => n ⟨ps, y⟩) (fun ps y => n ⟨ps, y⟩) e)
  · cases s with
    | none => exact trivial
    | some k =>
      obtain ⟨⟨n, a1, b1⟩, ⟨cs, a2, b2⟩, ⟨gs, a3, b3⟩, a4⟩ := w.mr
      exact ⟨⟨n, x _ _ a1 (fun _ z => by cases z), b1⟩, ⟨cs, x _ _ a2 (fun _ z => by cases z), b2⟩, ⟨gs, x _ _ a3 (fun _ z => by cases z), b3⟩, a4⟩
theorem c_lamT {K : PySem.W.Frag} {Z : Zn} {Eo : XK} {T : List (Addr × Str)} {C CE : Addr} {t : XK → TE} {f : Slots → S → R D} (hT : Z.T = T) (h0 : Z.cl 0 = C) (h12 : Z.cl 12 = CE) (hf : ∀ E, Cmp K Z E (t E) f) : Cmp K Z Eo (tLam T (TTab C CE) t) (fun ρ s => tabR (f ρ s)) := fun V H σ ρ s Q w p a => by
  subst hT h0 h12
  refine ⟨w.tb, fun H1 ex t1 E N hN hE => ?_⟩
  obtain ⟨n, w1⟩ := wd_ext w ex t1
  refine hf E V H1 σ ρ s N w1 (p.later n) ?_
  have a' : Ans K Z Eo (Dv K Z) (tabR (f ρ s)) s V H1 Q := Ans.later n a
  generalize f ρ s = r at a'
  induction r with
  | un => exact a'
  | dr t k ih => exact fun i h0 h1 => ih i (a' i h0 h1)
  | an P k ih => exact fun d s2 hp => ih d s2 (a' d s2 hp)
  | ok d s2 =>
    intro v V2 H2 n2 w2 rv
    refine hN v H2 ?_
    replace a' : Ans K Z Eo (Dv K Z) (tabO d s2) s V H1 Q := a'
    unfold tabO at a'
    split at a'
    · rename_i c x y z u
      by_cases e : c = 0
      · rw [if_pos e] at a'
        subst e
        cases rv with
        | @obj b _ dx fs _ h hn hs =>
          obtain ⟨vu, g1, g2⟩ := hs.at (i := 3) (d := u) rfl
          exact ⟨b, dx, fs, vu, rfl, w2.sv _ _ h, lookup_at hn (by decide +kernel) (i := 3) rfl g1, a' vu V2 H2 n2 w2 g2⟩
      · rw [if_neg e] at a'
        exact a'.elim
    · exact a'.elim
  | ex e s2 =>
    intro cls dd V2 H2 n2 w2 xr
    refine hE cls dd H2 ?_
    replace a' : Ans K Z Eo (Dv K Z) (tabX e s2) s V H1 Q := a'
    unfold tabX at a'
    split at a'
    · rename_i dv hds
      by_cases c : e.c = 12 ∧ e.ns = [("value" : Str)]
      · rw [if_pos c] at a'
        obtain ⟨x1, d', fs, x2, x3, x4, x5⟩ := xr
        rw [c.1] at x1
        rw [c.2] at x4
        rw [hds] at x5
        match fs, x4, x5 with
        | [(nm1, v1)], x4, .cons hv .nil =>
          injection x4 with y1 _
          have y1' : nm1 = ("value" : Str) := y1
          subst y1'
          refine ⟨x1, d', v1, x2, w2.sv _ _ x3, fun b q hb hq => ?_⟩
          refine a' (.ref q) (upd V2 q (.lst [v1])) _ ((n2.trans (Nx.up hb)).trans (Nx.new (w2.up hb) hq)) ((w2.up hb).new hq fun _ z => by cases z) (.lst upd_same (.cons (Dv.mono (Same.new ((w2.up hb).sv.free hq)) _ _ hv) .nil))
      · rw [if_neg c] at a'
        exact a'.elim
    · exact a'.elim
end W2

set_option maxHeartbeats 1000000
/-! PwM: the law's own defs that call closing and allowing. -/
namespace W2
open PySem PySem.Spec PyProof.Rows L2 Pg Pf LamX Pp Tab Rul
abbrev s__law_closed : Stmt := top 26
abbrev N__law_closed : List Str := ["_law_road", "_law_spots", "_law_n", "_law_k"]
theorem sc__law_closed : FnScope N__law_closed ["_law_road", "_law_spots", "_law_n", "_law_k"] (defScope s__law_closed) := ⟨rfl, rfl, rfl, by decide +kernel, rfl, by decide +kernel, by decide +kernel⟩
noncomputable def p__law_closed : Slots → S → R Fl :=
  (seqS (ifS (tst (b2 eqF (bC lenF (cnsA (vr 1) nilA)) (kst (.int 0)))) (retS (starF 0 4 0 2 0 gRL (runS p_Way_closing N_Way_closing.length) (vr 0) nilA (cnsA (vr 2) (cnsA (vr 3) nilA)))) nxS)
    (seqS (ifS (tst (b2 eqF (bC lenF (cnsA (vr 1) nilA)) (kst (.int 1)))) (retS (starF 0 4 1 2 0 gLR (runS p_Way_closing N_Way_closing.length) (vr 0) (cnsA (b2 ixF (vr 1) (kst (.int 0))) nilA) (cnsA (vr 3) (cnsA (vr 2) nilA)))) nxS)
    (seqS (ifS (tst (b2 eqF (bC lenF (cnsA (vr 1) nilA)) (kst (.int 2)))) (retS (starF 0 4 2 2 0 gRL (runS p_Way_closing N_Way_closing.length) (vr 0) (cnsA (b2 ixF (vr 1) (kst (.int 0))) (cnsA (b2 ixF (vr 1) (kst (.int 1))) nilA)) (cnsA (vr 2) (cnsA (vr 3) nilA)))) nxS)
    (seqS (ifS (tst (b2 eqF (bC lenF (cnsA (vr 1) nilA)) (kst (.int 3)))) (retS (starF 0 4 3 2 0 gRL (runS p_Way_closing N_Way_closing.length) (vr 0) (cnsA (b2 ixF (vr 1) (kst (.int 0))) (cnsA (b2 ixF (vr 1) (kst (.int 1))) (cnsA (b2 ixF (vr 1) (kst (.int 2))) nilA))) (cnsA (vr 2) (cnsA (vr 3) nilA)))) nxS)
    (retS (starF 0 4 4 2 0 gRL (runS p_Way_closing N_Way_closing.length) (vr 0) (cnsA (b2 ixF (vr 1) (kst (.int 0))) (cnsA (b2 ixF (vr 1) (kst (.int 1))) (cnsA (b2 ixF (vr 1) (kst (.int 2))) (cnsA (b2 ixF (vr 1) (kst (.int 3))) nilA)))) (cnsA (vr 2) (cnsA (vr 3) nilA))))))))
abbrev s__law_opened : Stmt := top 27
abbrev N__law_opened : List Str := ["_law_road", "_law_n", "_law_k", "_law_spots"]
theorem sc__law_opened : FnScope N__law_opened ["_law_road", "_law_n", "_law_k", "_law_spots"] (defScope s__law_opened) := ⟨rfl, rfl, rfl, by decide +kernel, rfl, by decide +kernel, by decide +kernel⟩
noncomputable def p__law_opened : Slots → S → R Fl :=
  (seqS (ifS (tst (b2 eqF (bC lenF (cnsA (vr 3) nilA)) (kst (.int 0)))) (retS (starF 0 4 2 0 2 gT2 (runS p_Way_allowing N_Way_allowing.length) (vr 0) (cnsA (vr 1) (cnsA (vr 2) nilA)) nilA)) nxS)
    (seqS (ifS (tst (b2 eqF (bC lenF (cnsA (vr 3) nilA)) (kst (.int 1)))) (retS (starF 0 4 3 0 2 gT2 (runS p_Way_allowing N_Way_allowing.length) (vr 0) (cnsA (vr 1) (cnsA (vr 2) (cnsA (b2 ixF (vr 3) (kst (.int 0))) nilA))) nilA)) nxS)
    (seqS (ifS (tst (b2 eqF (bC lenF (cnsA (vr 3) nilA)) (kst (.int 2)))) (retS (starF 0 4 4 0 2 gT2 (runS p_Way_allowing N_Way_allowing.length) (vr 0) (cnsA (vr 1) (cnsA (vr 2) (cnsA (b2 ixF (vr 3) (kst (.int 0))) (cnsA (b2 ixF (vr 3) (kst (.int 1))) nilA)))) nilA)) nxS)
    (seqS (ifS (tst (b2 eqF (bC lenF (cnsA (vr 3) nilA)) (kst (.int 3)))) (retS (starF 0 4 5 0 2 gT2 (runS p_Way_allowing N_Way_allowing.length) (vr 0) (cnsA (vr 1) (cnsA (vr 2) (cnsA (b2 ixF (vr 3) (kst (.int 0))) (cnsA (b2 ixF (vr 3) (kst (.int 1))) (cnsA (b2 ixF (vr 3) (kst (.int 2))) nilA))))) nilA)) nxS)
    (retS (starF 0 4 6 0 2 gT2 (runS p_Way_allowing N_Way_allowing.length) (vr 0) (cnsA (vr 1) (cnsA (vr 2) (cnsA (b2 ixF (vr 3) (kst (.int 0))) (cnsA (b2 ixF (vr 3) (kst (.int 1))) (cnsA (b2 ixF (vr 3) (kst (.int 2))) (cnsA (b2 ixF (vr 3) (kst (.int 3))) nilA)))))) nilA))))))
section
variable {P : Program} {w : World} {K : PySem.W.Frag} {mg : Str → Option Value} {base : Heap} {Z : Zn} {f fC fA DC DA : Addr} {fd : FuncData} {docC pmC cdC ctC kvA docA pmA cdA ctA : Value} {anC anA : Option Addr}
theorem ok__law_closed (B : Bt mg) (mClo : MetS P w K mg base Z 7 0 "closing" psC (runS p_Way_closing N_Way_closing.length) fC (fdC .none (.ref DC) docC pmC anC cdC ctC)) (mAllw : MetS P w K mg base Z 7 0 "allowing" psC (runS p_Way_allowing N_Way_allowing.length) fA (fdA .none kvA docA pmA anA cdA ctA))
    (F : Fun K "_law_closed" "_law_closed" s__law_closed f fd) : FnOk P w K mg base (L2.CX P w) 8 f fd ["_law_road", "_law_spots", "_law_n", "_law_k"] (spD K Z 4 (runS p__law_closed N__law_closed.length)) := by
  have naC : ("closing" : Str) ∉ nm 0 := by decide +kernel
  have naA : ("allowing" : Str) ∉ nm 0 := by decide +kernel
  have nd := sc__law_closed.nd
  refine fnO F sc__law_closed (by decide) fun cdv A outer s H E hr => ?_
  refine ⟨_, (pss_cons (ps_if (pt_cmpR (op_eqD hr.units) (pe_callB call_len_seq (by rfl) B.len PySem.boot_len (pa_cons (pv 1) pa_nil)) pe_int (nomark _)) (pss_one (ps_ret (pe_star0 mClo bd_rl0 hr (by decide) (passes_call (takes_of rfl rfl rfl rfl) (fun _ _ _ _ h => h)) (pv 0) (pk_cons (pv 2) (pk_cons (pv 3) pk_nil))))) pss_nil)
    (pss_cons (ps_if (pt_cmpR (op_eqD hr.units) (pe_callB call_len_seq (by rfl) B.len PySem.boot_len (pa_cons (pv 1) pa_nil)) pe_int (nomark _)) (pss_one (ps_ret (pe_star mClo bd_lr1 hr (by decide) (passes_call (takes_of rfl rfl rfl rfl) (fun _ _ _ _ h => h)) (pv 0) (pa_cons (pe_ix ix_seq (pv 1) pe_int (fun _ _ => rfl)) pa_nil) (pk_cons (pv 3) (pk_cons (pv 2) pk_nil))))) pss_nil)
    (pss_cons (ps_if (pt_cmpR (op_eqD hr.units) (pe_callB call_len_seq (by rfl) B.len PySem.boot_len (pa_cons (pv 1) pa_nil)) pe_int (nomark _)) (pss_one (ps_ret (pe_star mClo bd_rl2 hr (by decide) (passes_call (takes_of rfl rfl rfl rfl) (fun _ _ _ _ h => h)) (pv 0) (pa_cons (pe_ix ix_seq (pv 1) pe_int (fun _ _ => rfl)) (pa_cons (pe_ix ix_seq (pv 1) pe_int (fun _ _ => rfl)) pa_nil)) (pk_cons (pv 2) (pk_cons (pv 3) pk_nil))))) pss_nil)
    (pss_cons (ps_if (pt_cmpR (op_eqD hr.units) (pe_callB call_len_seq (by rfl) B.len PySem.boot_len (pa_cons (pv 1) pa_nil)) pe_int (nomark _)) (pss_one (ps_ret (pe_star mClo bd_rl3 hr (by decide) (passes_call (takes_of rfl rfl rfl rfl) (fun _ _ _ _ h => h)) (pv 0) (pa_cons (pe_ix ix_seq (pv 1) pe_int (fun _ _ => rfl)) (pa_cons (pe_ix ix_seq (pv 1) pe_int (fun _ _ => rfl)) (pa_cons (pe_ix ix_seq (pv 1) pe_int (fun _ _ => rfl)) pa_nil))) (pk_cons (pv 2) (pk_cons (pv 3) pk_nil))))) pss_nil)
    (pss_one (ps_ret (pe_star mClo bd_rl4 hr (by decide) (passes_call (takes_of rfl rfl rfl rfl) (fun _ _ _ _ h => h)) (pv 0) (pa_cons (pe_ix ix_seq (pv 1) pe_int (fun _ _ => rfl)) (pa_cons (pe_ix ix_seq (pv 1) pe_int (fun _ _ => rfl)) (pa_cons (pe_ix ix_seq (pv 1) pe_int (fun _ _ => rfl)) (pa_cons (pe_ix ix_seq (pv 1) pe_int (fun _ _ => rfl)) pa_nil)))) (pk_cons (pv 2) (pk_cons (pv 3) pk_nil))))))))), ?_⟩
  exact (cs_seq (cs_if (c_tT (c_op c2_eqD (c_call cC_len (c_cons (c_var 1) c_nil)) (c_c fun _ => .int _))) (cs_ret (c_star naC dg_rl (c_var 0) c_nil (c_cons (c_var 2) (c_cons (c_var 3) c_nil)))) cs_next)
    (cs_seq (cs_if (c_tT (c_op c2_eqD (c_call cC_len (c_cons (c_var 1) c_nil)) (c_c fun _ => .int _))) (cs_ret (c_star naC dg_lr (c_var 0) (c_cons (c_op c2_ix (c_var 1) (c_c fun _ => .int _)) c_nil) (c_cons (c_var 3) (c_cons (c_var 2) c_nil)))) cs_next)
    (cs_seq (cs_if (c_tT (c_op c2_eqD (c_call cC_len (c_cons (c_var 1) c_nil)) (c_c fun _ => .int _))) (cs_ret (c_star naC dg_rl (c_var 0) (c_cons (c_op c2_ix (c_var 1) (c_c fun _ => .int _)) (c_cons (c_op c2_ix (c_var 1) (c_c fun _ => .int _)) c_nil)) (c_cons (c_var 2) (c_cons (c_var 3) c_nil)))) cs_next)
    (cs_seq (cs_if (c_tT (c_op c2_eqD (c_call cC_len (c_cons (c_var 1) c_nil)) (c_c fun _ => .int _))) (cs_ret (c_star naC dg_rl (c_var 0) (c_cons (c_op c2_ix (c_var 1) (c_c fun _ => .int _)) (c_cons (c_op c2_ix (c_var 1) (c_c fun _ => .int _)) (c_cons (c_op c2_ix (c_var 1) (c_c fun _ => .int _)) c_nil))) (c_cons (c_var 2) (c_cons (c_var 3) c_nil)))) cs_next)
    (cs_ret (c_star naC dg_rl (c_var 0) (c_cons (c_op c2_ix (c_var 1) (c_c fun _ => .int _)) (c_cons (c_op c2_ix (c_var 1) (c_c fun _ => .int _)) (c_cons (c_op c2_ix (c_var 1) (c_c fun _ => .int _)) (c_cons (c_op c2_ix (c_var 1) (c_c fun _ => .int _)) c_nil)))) (c_cons (c_var 2) (c_cons (c_var 3) c_nil))))))))
theorem ok__law_opened (B : Bt mg) (mClo : MetS P w K mg base Z 7 0 "closing" psC (runS p_Way_closing N_Way_closing.length) fC (fdC .none (.ref DC) docC pmC anC cdC ctC)) (mAllw : MetS P w K mg base Z 7 0 "allowing" psC (runS p_Way_allowing N_Way_allowing.length) fA (fdA .none kvA docA pmA anA cdA ctA))
    (F : Fun K "_law_opened" "_law_opened" s__law_opened f fd) : FnOk P w K mg base (L2.CX P w) 8 f fd ["_law_road", "_law_n", "_law_k", "_law_spots"] (spD K Z 4 (runS p__law_opened N__law_opened.length)) := by
  have naC : ("closing" : Str) ∉ nm 0 := by decide +kernel
  have naA : ("allowing" : Str) ∉ nm 0 := by decide +kernel
  have nd := sc__law_opened.nd
  refine fnO F sc__law_opened (by decide) fun cdv A outer s H E hr => ?_
  refine ⟨_, (pss_cons (ps_if (pt_cmpR (op_eqD hr.units) (pe_callB call_len_seq (by rfl) B.len PySem.boot_len (pa_cons (pv 3) pa_nil)) pe_int (nomark _)) (pss_one (ps_ret (pe_star mAllw ba_2 hr (by decide) (passes_call (takes_of rfl rfl rfl rfl) (fun _ _ _ _ h => h)) (pv 0) (pa_cons (pv 1) (pa_cons (pv 2) pa_nil)) pk_nil))) pss_nil)
    (pss_cons (ps_if (pt_cmpR (op_eqD hr.units) (pe_callB call_len_seq (by rfl) B.len PySem.boot_len (pa_cons (pv 3) pa_nil)) pe_int (nomark _)) (pss_one (ps_ret (pe_star mAllw ba_3 hr (by decide) (passes_call (takes_of rfl rfl rfl rfl) (fun _ _ _ _ h => h)) (pv 0) (pa_cons (pv 1) (pa_cons (pv 2) (pa_cons (pe_ix ix_seq (pv 3) pe_int (fun _ _ => rfl)) pa_nil))) pk_nil))) pss_nil)
    (pss_cons (ps_if (pt_cmpR (op_eqD hr.units) (pe_callB call_len_seq (by rfl) B.len PySem.boot_len (pa_cons (pv 3) pa_nil)) pe_int (nomark _)) (pss_one (ps_ret (pe_star mAllw ba_4 hr (by decide) (passes_call (takes_of rfl rfl rfl rfl) (fun _ _ _ _ h => h)) (pv 0) (pa_cons (pv 1) (pa_cons (pv 2) (pa_cons (pe_ix ix_seq (pv 3) pe_int (fun _ _ => rfl)) (pa_cons (pe_ix ix_seq (pv 3) pe_int (fun _ _ => rfl)) pa_nil)))) pk_nil))) pss_nil)
    (pss_cons (ps_if (pt_cmpR (op_eqD hr.units) (pe_callB call_len_seq (by rfl) B.len PySem.boot_len (pa_cons (pv 3) pa_nil)) pe_int (nomark _)) (pss_one (ps_ret (pe_star mAllw ba_5 hr (by decide) (passes_call (takes_of rfl rfl rfl rfl) (fun _ _ _ _ h => h)) (pv 0) (pa_cons (pv 1) (pa_cons (pv 2) (pa_cons (pe_ix ix_seq (pv 3) pe_int (fun _ _ => rfl)) (pa_cons (pe_ix ix_seq (pv 3) pe_int (fun _ _ => rfl)) (pa_cons (pe_ix ix_seq (pv 3) pe_int (fun _ _ => rfl)) pa_nil))))) pk_nil))) pss_nil)
    (pss_one (ps_ret (pe_star mAllw ba_6 hr (by decide) (passes_call (takes_of rfl rfl rfl rfl) (fun _ _ _ _ h => h)) (pv 0) (pa_cons (pv 1) (pa_cons (pv 2) (pa_cons (pe_ix ix_seq (pv 3) pe_int (fun _ _ => rfl)) (pa_cons (pe_ix ix_seq (pv 3) pe_int (fun _ _ => rfl)) (pa_cons (pe_ix ix_seq (pv 3) pe_int (fun _ _ => rfl)) (pa_cons (pe_ix ix_seq (pv 3) pe_int (fun _ _ => rfl)) pa_nil)))))) pk_nil))))))), ?_⟩
  exact (cs_seq (cs_if (c_tT (c_op c2_eqD (c_call cC_len (c_cons (c_var 3) c_nil)) (c_c fun _ => .int _))) (cs_ret (c_star naA dg_t (c_var 0) (c_cons (c_var 1) (c_cons (c_var 2) c_nil)) c_nil)) cs_next)
    (cs_seq (cs_if (c_tT (c_op c2_eqD (c_call cC_len (c_cons (c_var 3) c_nil)) (c_c fun _ => .int _))) (cs_ret (c_star naA dg_t (c_var 0) (c_cons (c_var 1) (c_cons (c_var 2) (c_cons (c_op c2_ix (c_var 3) (c_c fun _ => .int _)) c_nil))) c_nil)) cs_next)
    (cs_seq (cs_if (c_tT (c_op c2_eqD (c_call cC_len (c_cons (c_var 3) c_nil)) (c_c fun _ => .int _))) (cs_ret (c_star naA dg_t (c_var 0) (c_cons (c_var 1) (c_cons (c_var 2) (c_cons (c_op c2_ix (c_var 3) (c_c fun _ => .int _)) (c_cons (c_op c2_ix (c_var 3) (c_c fun _ => .int _)) c_nil)))) c_nil)) cs_next)
    (cs_seq (cs_if (c_tT (c_op c2_eqD (c_call cC_len (c_cons (c_var 3) c_nil)) (c_c fun _ => .int _))) (cs_ret (c_star naA dg_t (c_var 0) (c_cons (c_var 1) (c_cons (c_var 2) (c_cons (c_op c2_ix (c_var 3) (c_c fun _ => .int _)) (c_cons (c_op c2_ix (c_var 3) (c_c fun _ => .int _)) (c_cons (c_op c2_ix (c_var 3) (c_c fun _ => .int _)) c_nil))))) c_nil)) cs_next)
    (cs_ret (c_star naA dg_t (c_var 0) (c_cons (c_var 1) (c_cons (c_var 2) (c_cons (c_op c2_ix (c_var 3) (c_c fun _ => .int _)) (c_cons (c_op c2_ix (c_var 3) (c_c fun _ => .int _)) (c_cons (c_op c2_ix (c_var 3) (c_c fun _ => .int _)) (c_cons (c_op c2_ix (c_var 3) (c_c fun _ => .int _)) c_nil)))))) c_nil))))))
end
end W2

set_option maxHeartbeats 1000000
/-! PwN: _law_closed and _law_opened, evaluated. -/
namespace W2
open PySem PySem.Spec PyProof.Rows L2 Pg Pf LamX Pp Tab Rul
section
variable {e l k : Nat} {c : Cf} {ns : List Int} {ro lo : Option Nat}
theorem seq_rt {F G : Slots → S → R Fl} {ρ : Slots} {s : S} {r : R D} (h : F ρ s = r.bind fun d s => .ok (.rt d) s) : seqS F G ρ s = r.bind fun d s => .ok (.rt d) s := by
  unfold seqS
  rw [h, bind_assoc']
  rfl
theorem bind_pure (r : R D) : (r.bind fun d s => R.ok (Fl.rt d) s).bind endF = r := by
  rw [bind_assoc']
  show r.bind (fun d s => R.ok d s) = r
  induction r with
  | ok d s => rfl
  | ex e s => rfl
  | un => rfl
  | dr t f ih =>
    show R.dr t _ = R.dr t _
    congr 1
    funext i
    exact ih i
  | an P f ih =>
    show R.an P _ = R.an P _
    congr 1
    funext d s
    exact ih d s
theorem pass (r : R D) (k : Fl → S → R Fl) (hk : ∀ d s, k (.rt d) s = .ok (.rt d) s) : ((r.bind fun d s => R.ok (Fl.rt d) s).bind k).bind endF = r := by
  induction r with
  | ok d s =>
    show (k (.rt d) s).bind endF = _
    rw [hk]
    rfl
  | ex e s => rfl
  | un => rfl
  | dr t f ih =>
    show R.dr t _ = R.dr t _
    congr 1
    funext i
    exact ih i
  | an P f ih =>
    show R.an P _ = R.an P _
    congr 1
    funext d s
    exact ih d s
theorem closed_eq (o : OkW e l k c) (hr : ∀ i, ro = some i → i < e) (hl : ∀ j, lo = some j → j < l) (hn : ns.length ≤ 4) (hv : ∀ x ∈ ns, 0 ≤ x ∧ x < (k : Int)) (s : S) :
    runS p__law_closed N__law_closed.length [wayD e l k c, .lst (intsD ns), oD ro, oD lo] s = if (pairsL e l).any (badP c ns ro lo) = true then .ex noPl s else .ok (wayD e l k (lessW c ns ro lo)) s := by
  have h := closing_eq (ro := ro) (lo := lo) o hr hl (by omega : ns.length ≤ 1000) hv s
  rw [← h]
  match ns, hn with
  | [], _ =>
    show R.bind (R.bind (R.bind (runS p_Way_closing N_Way_closing.length [wayD e l k c, oD ro, oD lo, .tup (intsD [])] s) fun d s => R.ok (Fl.rt d) s) _) endF = _
    generalize runS p_Way_closing N_Way_closing.length [wayD e l k c, oD ro, oD lo, .tup (intsD [])] s = r
    exact pass r _ fun _ _ => rfl
  | [a], _ =>
    show R.bind (R.bind (R.bind (runS p_Way_closing N_Way_closing.length [wayD e l k c, oD ro, oD lo, .tup (intsD [a])] s) fun d s => R.ok (Fl.rt d) s) _) endF = _
    generalize runS p_Way_closing N_Way_closing.length [wayD e l k c, oD ro, oD lo, .tup (intsD [a])] s = r
    exact pass r _ fun _ _ => rfl
  | [a, b], _ =>
    show R.bind (R.bind (R.bind (runS p_Way_closing N_Way_closing.length [wayD e l k c, oD ro, oD lo, .tup (intsD [a, b])] s) fun d s => R.ok (Fl.rt d) s) _) endF = _
    generalize runS p_Way_closing N_Way_closing.length [wayD e l k c, oD ro, oD lo, .tup (intsD [a, b])] s = r
    exact pass r _ fun _ _ => rfl
  | [a, b, d], _ =>
    show R.bind (R.bind (R.bind (runS p_Way_closing N_Way_closing.length [wayD e l k c, oD ro, oD lo, .tup (intsD [a, b, d])] s) fun d s => R.ok (Fl.rt d) s) _) endF = _
    generalize runS p_Way_closing N_Way_closing.length [wayD e l k c, oD ro, oD lo, .tup (intsD [a, b, d])] s = r
    exact pass r _ fun _ _ => rfl
  | [a, b, d, f], _ =>
    show R.bind (R.bind (runS p_Way_closing N_Way_closing.length [wayD e l k c, oD ro, oD lo, .tup (intsD [a, b, d, f])] s) fun d s => R.ok (Fl.rt d) s) endF = _
    exact bind_pure _
theorem opened_eq (o : OkW e l k c) {i j : Nat} (hi : i < e) (hj : j < l) (hn : ns.length ≤ 4) (hv : ∀ x ∈ ns, 0 ≤ x ∧ x < (k : Int)) (s : S) :
    runS p__law_opened N__law_opened.length [wayD e l k c, .int (i : Nat), .int (j : Nat), .lst (intsD ns)] s = if ns = [] then .ex noPl s else .ok (wayD e l k (put2 c i j (sortU k ns))) s := by
  have h := allowing_eq o hi hj (by omega : ns.length ≤ 1000) hv s
  rw [← h]
  match ns, hn with
  | [], _ =>
    show R.bind (R.bind (R.bind (runS p_Way_allowing N_Way_allowing.length [wayD e l k c, .int (i : Nat), .int (j : Nat), .tup (intsD [])] s) fun d s => R.ok (Fl.rt d) s) _) endF = _
    generalize runS p_Way_allowing N_Way_allowing.length [wayD e l k c, .int (i : Nat), .int (j : Nat), .tup (intsD [])] s = r
    exact pass r _ fun _ _ => rfl
  | [a], _ =>
    show R.bind (R.bind (R.bind (runS p_Way_allowing N_Way_allowing.length [wayD e l k c, .int (i : Nat), .int (j : Nat), .tup (intsD [a])] s) fun d s => R.ok (Fl.rt d) s) _) endF = _
    generalize runS p_Way_allowing N_Way_allowing.length [wayD e l k c, .int (i : Nat), .int (j : Nat), .tup (intsD [a])] s = r
    exact pass r _ fun _ _ => rfl
  | [a, b], _ =>
    show R.bind (R.bind (R.bind (runS p_Way_allowing N_Way_allowing.length [wayD e l k c, .int (i : Nat), .int (j : Nat), .tup (intsD [a, b])] s) fun d s => R.ok (Fl.rt d) s) _) endF = _
    generalize runS p_Way_allowing N_Way_allowing.length [wayD e l k c, .int (i : Nat), .int (j : Nat), .tup (intsD [a, b])] s = r
    exact pass r _ fun _ _ => rfl
  | [a, b, d], _ =>
    show R.bind (R.bind (R.bind (runS p_Way_allowing N_Way_allowing.length [wayD e l k c, .int (i : Nat), .int (j : Nat), .tup (intsD [a, b, d])] s) fun d s => R.ok (Fl.rt d) s) _) endF = _
    generalize runS p_Way_allowing N_Way_allowing.length [wayD e l k c, .int (i : Nat), .int (j : Nat), .tup (intsD [a, b, d])] s = r
    exact pass r _ fun _ _ => rfl
  | [a, b, d, f], _ =>
    show R.bind (R.bind (runS p_Way_allowing N_Way_allowing.length [wayD e l k c, .int (i : Nat), .int (j : Nat), .tup (intsD [a, b, d, f])] s) fun d s => R.ok (Fl.rt d) s) endF = _
    exact bind_pure _
end
end W2

set_option maxHeartbeats 1000000
/-! Pp9: repr, data in data, slices of lists. -/
namespace Pp
open PySem PySem.Spec PyProof.Rows L2 Pg Pf LamX Rul
section
variable {K : PySem.W.Frag} {Z : Zn} {E : XK}
/-- repr(x) of a list, a tuple -/
def rReprD (K : PySem.W.Frag) : List V → Hp → VK → Prop := fun xs H Q => ∃ a d, xs = [.ref a] ∧ Dp K H (.ref a) d ∧ d.showable = true ∧ d.hasDict = false ∧ d.depth ≤ 60 ∧ d.shown.length ≤ sizeLine ∧ Q (.str d.shown) H
def isSq : D → Bool
  | .tup _ => true
  | .lst _ => true
  | .rls _ => true
  | _ => false
def reprOk (d : D) : Prop := d.isPy = true ∧ isSq d = true ∧ d.py.showable = true ∧ d.py.hasDict = false ∧ d.py.depth ≤ 60 ∧ d.py.shown.length ≤ sizeLine
open Classical in
noncomputable def reprF (ds : List D) (s : S) : R D := match ds with
  | [d] => if reprOk d then .ok (.str d.py.shown) s else .un
  | _ => .un
theorem sq_ref {G : Hp} {v : V} {d : D} (h : Dv K Z G v d) (e : isSq d = true) : ∃ a, v = .ref a := by
  cases h <;> first | exact ⟨_, rfl⟩ | cases e
theorem cC_repr : CmpC K Z E (rReprD K) reprF := fun V H s xs ds Q w r a => by
  match ds, r, a with
  | [d], .cons (v := v) h .nil, a =>
    by_cases e : reprOk d
    · have ee : reprF [d] s = .ok (.str d.py.shown) s := if_pos e
      rw [ee] at a
      obtain ⟨e1, e2, e3, e4, e5, e6⟩ := e
      obtain ⟨b, rfl⟩ := sq_ref h e2
      exact ⟨b, d.py, rfl, Dp.mono w.sv _ _ (Dv.dp _ _ h e1), e3, e4, e5, e6, Ans.pure w (.str _) a⟩
    · have ee : reprF [d] s = .un := if_neg e
      rw [ee] at a
      exact a.elim
  | [], _, a => exact a.elim
  | _ :: _ :: _, _, a => exact a.elim
/-- x in a tuple, any data -/
def rInT (K : PySem.W.Frag) : R2 := fun x y H Q => ∃ d ds, Dp K H x d ∧ Dp K H y (.tuple ds) ∧ SeqAt.shaped d = true ∧ SeqAt.shaped (.tuple ds) = true ∧ Q (.bl (ds.any fun z => PyData.eqv z d)) H
theorem op_inT {X : Cx} (hu : X.A.units + 65 < cLine) : OpR X (compareOp .In) (rInT X.K) := by
  intro pins s σ H x y v u Q I rx ry h
  obtain ⟨d, ds, hd, he, sd, se, q⟩ := h
  obtain ⟨as, r1⟩ := Dp.reads I d x v hd rx
  obtain ⟨bs, r2⟩ := Dp.reads I (.tuple ds) y u he ry
  exact SeqAt.in_tuple_reads r2 r1 (SeqAt.canLay_of_shaped se) (SeqAt.canLay_of_shaped sd) (room_in_shaped sd hu) ⟨.bl _, H, I, rfl, q⟩
def inTF (x y : D) (s : S) : R D := match y with
  | .tup ds => if (x.isPy && isPyA ds && SeqAt.shaped x.py && SeqAt.shaped (.tuple (pyA ds))) = true then .ok (.bl ((pyA ds).any fun z => PyData.eqv z x.py)) s else .un
  | _ => .un
theorem c2_inT : Cmp2 K Z E (rInT K) inTF := fun V H s x y dx dy Q w rx ry a => by
  cases ry with
  | @tup b vs ds hx hs =>
    replace a : Ans K Z E (Dv K Z) (if (dx.isPy && isPyA ds && SeqAt.shaped dx.py && SeqAt.shaped (.tuple (pyA ds))) = true then .ok (.bl ((pyA ds).any fun z => PyData.eqv z dx.py)) s else .un) s V H Q := a
    by_cases e : (dx.isPy && isPyA ds && SeqAt.shaped dx.py && SeqAt.shaped (.tuple (pyA ds))) = true
    · rw [if_pos e] at a
      have e1 := Bool.and_eq_true_iff.mp e
      have e2 := Bool.and_eq_true_iff.mp e1.1
      have e3 := Bool.and_eq_true_iff.mp e2.1
      exact ⟨dx.py, pyA ds, Dp.mono w.sv _ _ (Dv.dp _ _ rx e3.1), Dp.mono w.sv _ _ (.tup hx (DvA.dp _ _ hs e3.2)), e2.2, e1.2, Ans.pure w (.bl _) a⟩
    · rw [if_neg e] at a
      exact a.elim
  | _ => exact a.elim
/-- x[lo:hi] of a list -/
def slLF (d : D) (lo hi : Option Int) (s : S) : R D := match d with
  | .lst ds => .ok (.lst (cutD ds lo hi)) s
  | .rls ds => .ok (.lst (cutD ds lo hi)) s
  | _ => .un
def slLX (f : Slots → S → R D) (g h : Slots → S → R (Option Int)) (ρ : Slots) (s : S) : R D := (f ρ s).bind fun d s => (g ρ s).bind fun lo s => (h ρ s).bind fun hi s => slLF d lo hi s
theorem c_slL {te : TE} {f : Slots → S → R D} {tl th : TO} {g h : Slots → S → R (Option Int)} (he : Cmp K Z E te f) (hl : CmpO K Z E tl g) (hh : CmpO K Z E th h) : Cmp K Z E (L2.tSl (rSlL K) te tl th) (slLX f g h) := fun V H σ ρ s Q w p a =>
  he V H σ ρ s _ w p (Ans.bind a fun d s1 v V1 H1 n1 w1 r1 a1 =>
    hl V1 H1 σ ρ s1 _ w1 (p.later n1) (Ans.bind a1 fun lo s2 o2 V2 H2 n2 w2 e2 a2 =>
      hh V2 H2 σ ρ s2 _ w2 ((p.later n1).later n2) (Ans.bind a2 fun hi s3 o3 V3 H3 n3 w3 e3 a3 => by
        subst e2 e3
        replace r1 := Dv.mono (n2.g.trans n3.g) _ _ r1
        cases r1 with
        | @lst b vs ds hx hs => exact ⟨b, vs, rfl, SqL.of (w3.sv _ _ hx), new_lst w3 (hs.cut o2 o3) a3⟩
        | @rls b vs ds hx hs => exact ⟨b, vs, rfl, Evl.ex_l w3.sv hx, new_lst w3 (hs.cut o2 o3) a3⟩
        | _ => exact a3.elim)))
/-- tuple(x), len(x) of a list of one's own -/
def tupO (i : Nat) (ρ : Slots) (s : S) : R D := match ρ[i]? with
  | some (.ow (.ls ds)) => .ok (.tup ds) s
  | _ => .un
theorem c_tupO (i : Nat) : Cmp K Z E (tCB (fun xs H Q => ∃ p ys, xs = [.ref p] ∧ ((SqL K H p ys ∧ ∀ l, H l = none → Q (.ref l) (upd H l (.tup ys))) ∨ (SqT K H p ys ∧ Q (.ref p) H))) (tCons (tVar i) tNil)) (tupO i) := fun V H σ ρ s Q w p a => by
  unfold tupO at a
  cases e : ρ[i]? with
  | none =>
    rw [e] at a
    exact a.elim
  | some x =>
    cases x with
    | ow o =>
      cases o with
      | ls ds =>
        rw [e] at a
        obtain ⟨b, u, h1, h2, h3, _⟩ := p.ow i (.ls ds) e
        cases h3 with
        | @ls vs _ hs => exact ⟨.ref b, h1, b, vs, rfl, .inl ⟨SqL.of h2, new_tup w hs a⟩⟩
      | is c ns ds =>
        rw [e] at a
        exact a.elim
    | no =>
      rw [e] at a
      exact a.elim
    | fz d =>
      rw [e] at a
      exact a.elim
def lenO (i : Nat) (ρ : Slots) (s : S) : R D := match ρ[i]? with
  | some (.ow (.ls ds)) => .ok (.int ds.length) s
  | _ => .un
theorem c_lenO (i : Nat) : Cmp K Z E (tCB (fun xs H Q => ∃ p ys, xs = [.ref p] ∧ (SqL K H p ys ∨ SqT K H p ys) ∧ Q (.int ys.length) H) (tCons (tVar i) tNil)) (lenO i) := fun V H σ ρ s Q w p a => by
  unfold lenO at a
  cases e : ρ[i]? with
  | none =>
    rw [e] at a
    exact a.elim
  | some x =>
    cases x with
    | ow o =>
      cases o with
      | ls ds =>
        rw [e] at a
        obtain ⟨b, u, h1, h2, h3, _⟩ := p.ow i (.ls ds) e
        cases h3 with
        | @ls vs _ hs => exact ⟨.ref b, h1, b, vs, rfl, .inl (SqL.of h2), by rw [hs.len]; exact Ans.pure w (.int _) a⟩
      | is c ns ds =>
        rw [e] at a
        exact a.elim
    | no =>
      rw [e] at a
      exact a.elim
    | fz d =>
      rw [e] at a
      exact a.elim
/-- == and != of texts -/
def strF (neg : Bool) (x y : D) (s : S) : R D := match x, y with
  | .str a, .str b => .ok (.bl (if neg = true then !decide (a = b) else decide (a = b))) s
  | _, _ => .un
theorem dec_strs (a b : Str) : decide (V.str a = V.str b) = decide (a = b) := by
  rw [Bool.eq_iff_iff, decide_eq_true_eq, decide_eq_true_eq]
  exact ⟨fun h => by injection h, fun h => by rw [h]⟩
theorem c2_eqS : Cmp2 K Z E rEq (strF false) := fun V H s x y dx dy Q w rx ry a => by
  cases rx with
  | str a1 =>
    cases ry with
    | str b1 => exact ⟨rfl, by rw [dec_strs]; exact Ans.pure w (.bl _) a⟩
    | _ => exact a.elim
  | _ => exact a.elim
theorem c2_neS : Cmp2 K Z E rNe (strF true) := fun V H s x y dx dy Q w rx ry a => by
  cases rx with
  | str a1 =>
    cases ry with
    | str b1 => exact ⟨rfl, by rw [dec_strs]; exact Ans.pure w (.bl _) a⟩
    | _ => exact a.elim
  | _ => exact a.elim
end
end Pp

set_option maxHeartbeats 1000000
/-! PwO: the law's own defs on nets. -/
namespace W2
open PySem PySem.Spec PyProof.Rows L2 Pg Pf LamX Pp Tab Rul
theorem hu65 {k : Nat} {A : Around} (hr : Room k A) : A.units + 65 < cLine := by
  have := hr.un
  omega
abbrev s__law_less : Stmt := top 29
abbrev N__law_less : List Str := ["_law_net_here", "_law_spots", "_law_n", "_law_k", "_law_rows", "_law_at", "_law_row", "_law_far", "_law_is_meant", "_law_spot"]
theorem sc__law_less : FnScope N__law_less ["_law_net_here", "_law_spots", "_law_n", "_law_k"] (defScope s__law_less) := ⟨rfl, rfl, rfl, by decide +kernel, rfl, by decide +kernel, by decide +kernel⟩
def p__law_less : Slots → S → R Fl :=
  (seqS (setW 4 (litL nilA))
    (seqS (forS (rgI rg1F (cnsA (b2 ixF (vr 0) (kst (.int 0))) nilA)) (gN 5)
    (seqS (setW 6 (litL nilA))
    (seqS (forS (rgI rg1F (cnsA (b2 ixF (vr 0) (kst (.int 1))) nilA)) (gN 7)
    (seqS (setF 8 (dnd (b2 (inF false) (vr 2) (bC tupF (cnsA (kst .non) (cnsA (vr 5) nilA)))) (b2 (inF false) (vr 3) (bC tupF (cnsA (kst .non) (cnsA (vr 7) nilA))))))
    (appS 6 (bC tupleF (cnsA (mkL (lcF (seqI (b2 ixF (b2 ixF (b2 ixF (vr 0) (kst (.int 3))) (vr 5)) (vr 7))) (gN 9) (bor (bnt (tst (vr 8))) (tst (b2 (inF true) (vr 9) (vr 1)))) (vr 9) [9])) nilA)))))
    (appS 4 (tupO 6)))))
    (retS (iff (tst (b2 neqF (mkL (lcF (seqI (vr 4)) (gN 6) (tst (b2 inTF (bC tupF nilA) (vr 6))) (kst (.int 1)) [6])) (mkL (litL nilA)))) (mkL (litL (cnsA (kst .non) nilA))) (bC tupleF (cnsA (vr 4) nilA))))))
section
variable {P : Program} {w : World} {K : PySem.W.Frag} {mg : Str → Option Value} {base : Heap} {Z : Zn} {f : Addr} {fd : FuncData}
theorem ok__law_less (B : Bt mg) (F : Fun K "_law_less" "_law_less" s__law_less f fd) : FnOk P w K mg base (L2.CX P w) 2 f fd ["_law_net_here", "_law_spots", "_law_n", "_law_k"] (spD K Z 4 (runS p__law_less N__law_less.length)) := by
  have nd := sc__law_less.nd
  refine fnO F sc__law_less (by decide) fun cdv A outer s H E hr => ?_
  refine ⟨_, (pss_cons (ps_set (i := 4) nd rfl (Or.inl rfl) (pe_lst pa_nil))
    (pss_cons (ps_for (passes_of rfl) rfl (pi_range1 rfl B.range (pa_cons (pe_ix ix_seq (pv 0) pe_int (fun _ _ => rfl)) pa_nil)) (pg_name (i := 5) nd rfl (Or.inl rfl))
    (pss_cons (ps_set (i := 6) nd rfl (Or.inl rfl) (pe_lst pa_nil))
    (pss_cons (ps_for (passes_of rfl) rfl (pi_range1 rfl B.range (pa_cons (pe_ix ix_seq (pv 0) pe_int (fun _ _ => rfl)) pa_nil)) (pg_name (i := 7) nd rfl (Or.inl rfl))
    (pss_cons (ps_set (i := 8) nd rfl (Or.inr rfl) (pe_and (pe_cmpR (show OpR _ (compareOp .In) (rIn _ false) from op_in_seq) (pv 2) (pe_tup (pa_cons pe_non (pa_cons (pv 5) pa_nil))) (by rfl)) (pe_one (pe_cmpR (show OpR _ (compareOp .In) (rIn _ false) from op_in_seq) (pv 3) (pe_tup (pa_cons pe_non (pa_cons (pv 7) pa_nil))) (by rfl)))))
    (pss_one (ps_expr (pe_bm PySem.F.plainAttrs_list PySem.F.slot_list_append PySem.F.type_list_append mt_append (pv 6) (pa_cons (pe_callTy call_tuple_of (by rfl) B.tuple (by decide +kernel) (pa_cons (pe_lc (own := [("_law_spot", 9)]) rfl nd (pi_seq (pe_ix ix_seq (pe_ix ix_seq (pe_ix ix_seq (pv 0) pe_int (fun _ _ => rfl)) (pv 5) (fun _ _ => rfl)) (pv 7) (fun _ _ => rfl))) (blkOk_by (N := N__law_less) (sc := defScope s__law_less) (by decide +kernel)) (fun _ _ _ _ _ => (pg_name (i := 9) nd rfl (Or.inl rfl))) (fun _ _ _ _ _ => pts_one (PW.pt (pw_or (pt_not (pt_val (pv 8))) (pw_or1 (pt_cmpR (show OpR _ (compareOp .NotIn) (rIn _ true) from op_notIn_seq) (pv 9) (pv 1) (by rfl)))))) (fun _ _ _ _ _ => (pv 9))) pa_nil)) pa_nil))))))
    (pss_one (ps_expr (pe_bm PySem.F.plainAttrs_list PySem.F.slot_list_append PySem.F.type_list_append mt_append (pv 4) (pa_cons (pe_callTy call_tuple_of (by rfl) B.tuple (by decide +kernel) (pa_cons (pv 6) pa_nil)) pa_nil)))))))
    (pss_one (ps_ret (pe_ifExp (pt_cmpR (op_neD hr.units) (pe_lc (own := [("_law_row", 6)]) rfl nd (pi_seq (pv 4)) (blkOk_by (N := N__law_less) (sc := defScope s__law_less) (by decide +kernel)) (fun _ _ _ _ _ => (pg_name (i := 6) nd rfl (Or.inl rfl))) (fun _ _ _ _ _ => pts_one (pt_cmpR (show OpR _ (compareOp .In) (rInT _) from op_inT (by exact (hu65 hr))) (pe_tup pa_nil) (pv 6) (by rfl))) (fun _ _ _ _ _ => pe_int)) (pe_lst pa_nil) (nomark _)) (pe_lst (pa_cons pe_non pa_nil)) (pe_callTy call_tuple_of (by rfl) B.tuple (by decide +kernel) (pa_cons (pv 4) pa_nil))))))), ?_⟩
  exact (cs_seq (cs_setW 4 (cl_lit c_nil))
    (cs_seq (cs_for (ci_rng1 (c_cons (c_op c2_ix (c_var 0) (c_c fun _ => .int _)) c_nil)) (cg_name 5)
    (cs_seq (cs_setW 6 (cl_lit c_nil))
    (cs_seq (cs_for (ci_rng1 (c_cons (c_op c2_ix (c_var 0) (c_c fun _ => .int _)) c_nil)) (cg_name 7)
    (cs_seq (cs_setF 8 (c_andV (c_op (c2_in false) (c_var 2) (c_tup (c_cons (c_c fun _ => .non) (c_cons (c_var 5) c_nil)))) (c_op (c2_in false) (c_var 3) (c_tup (c_cons (c_c fun _ => .non) (c_cons (c_var 7) c_nil))))))
    (cs_app 6 (c_call cC_tuple (c_cons (c_mkL (cl_lc (ci_seq (c_op c2_ix (c_op c2_ix (c_op c2_ix (c_var 0) (c_c fun _ => .int _)) (c_var 5)) (c_var 7))) (cg_name 9) (by decide) (c_or (c_not (c_tB (c_var 8))) (c_tT (c_op (c2_in true) (c_var 9) (c_var 1)))) (c_var 9))) c_nil)))))
    (cs_app 4 (c_tupO 6)))))
    (cs_ret (c_if (c_tT (c_op c2_neD (c_mkL (cl_lc (ci_seq (c_var 4)) (cg_name 6) (by decide) (c_tT (c_op c2_inT (c_tup c_nil) (c_var 6))) (c_c fun _ => .int _))) (c_mkL (cl_lit c_nil)))) (c_mkL (cl_lit (c_cons (c_c fun _ => .non) c_nil))) (c_call cC_tuple (c_cons (c_var 4) c_nil))))))
end
end W2

set_option maxHeartbeats 1000000
/-! PwP: _law_less, evaluated. -/
namespace W2
open PySem PySem.Spec PyProof.Rows L2 Pg Pf LamX Pp Tab Rul
/-- a loop over a range, by what holds ahead of each turn -/
theorem for_rng {g : D → Slots → Option Slots} {F : Slots → S → R Fl} {s : S} (P : Nat → Slots → Prop) : ∀ (n m : Nat) {ρ : Slots}, P m ρ →
    (∀ i ρ, m ≤ i → i < m + n → P i ρ → ∃ ρ1 ρ2, g (.int (0 + (i : Nat))) ρ = some ρ1 ∧ F ρ1 s = .ok (.nx ρ2) s ∧ P (i + 1) ρ2) →
    ∃ ρ', forL g F ((List.range' m n).map fun i => D.int (0 + (i : Nat))) ρ s = .ok (.nx ρ') s ∧ P (m + n) ρ'
  | 0, m, ρ, h, _ => ⟨ρ, rfl, h⟩
  | n + 1, m, ρ, h, step => by
    obtain ⟨ρ1, ρ2, e1, e2, h2⟩ := step m ρ (Nat.le_refl _) (by omega) h
    obtain ⟨ρ', e3, h3⟩ := for_rng P n (m + 1) h2 fun i ρ a b p => step i ρ (by omega) (by omega) p
    refine ⟨ρ', ?_, by rw [show m + (n + 1) = m + 1 + n by omega]; exact h3⟩
    rw [List.range'_succ, List.map_cons]
    show (match g (.int (0 + (m : Nat))) ρ with | none => R.un | some ρ1 => (F ρ1 s).bind (forK fun ρ s => forL g F ((List.range' (m + 1) n).map fun i => D.int (0 + (i : Nat))) ρ s)) = _
    rw [e1]
    show (F ρ1 s).bind _ = _
    rw [e2]
    exact e3
theorem rngD_eq (n : Nat) : rngD 0 n = (List.range' 0 n).map fun i => D.int (0 + (i : Nat)) := by
  unfold rngD
  rw [List.range_eq_range']
theorem notin_its (x : Int) (ns : List Int) (y : D) (hy : itsD y = some (intsD ns)) (s : S) : inF true (.int x) y s = .ok (.bl (!decide (x ∈ ns))) s := by
  rw [← notin_ints x ns s]
  unfold inF
  rw [hy]
  rfl
def cellsD (l : Nat) (f : Nat → List Int) : List D := (List.range l).map fun j => .tup (intsD (f j))
theorem cellsD_succ (j : Nat) (f : Nat → List Int) : cellsD (j + 1) f = cellsD j f ++ [.tup (intsD (f j))] := by
  unfold cellsD
  rw [List.range_succ, List.map_append]
  rfl
def rowsD (e l : Nat) (c : Cf) : List D := (List.range e).map fun i => .tup (cellsD l (c i))
theorem rowsD_succ (i l : Nat) (c : Cf) : rowsD (i + 1) l c = rowsD i l c ++ [.tup (cellsD l (c i))] := by
  unfold rowsD
  rw [List.range_succ, List.map_append]
  rfl
theorem tab_rows (e l : Nat) (c : Cf) : tabDD e l c = .tup (rowsD e l c) := by
  rw [tabDD_eq]
  unfold tabF rowsD cellsD rowDD
  rw [List.map_map]
  congr 1
  apply List.map_congr_left
  intro i _
  show D.tup (((List.range l).map fun j => c i j).map fun c => D.tup (intsD c)) = _
  rw [List.map_map]
  rfl
/-- a net's rows -/
def netRows (e l : Nat) (c : Cf) : List D := (List.range e).map fun i => .rls (cellsD l (c i))
theorem net_eq (e l k : Nat) (c : Cf) : netDD e l k c = .tup [.int (e : Nat), .int (l : Nat), .int (k : Nat), .rls (netRows e l c)] := by
  show D.tup [.int (e : Nat), .int (l : Nat), .int (k : Nat), .rls (ofPyA ((tabF e l c).map rowL))] = _
  rw [ofPyA_map]
  congr 4
  unfold tabF netRows
  rw [List.map_map]
  refine congrArg (fun z => ([D.rls z] : List D)) (List.map_congr_left fun i _ => ?_)
  show D.rls (ofPyA (((List.range l).map fun j => c i j).map cellD)) = _
  rw [ofPyA_map, List.map_map]
  unfold cellsD
  congr 1
  apply List.map_congr_left
  intro j _
  exact ofPy_cell _
theorem in_pair (o : Option Nat) (i : Nat) (s : S) : inF false (oD o) (.tup [.non, .int (i : Nat)]) s = .ok (.bl (isO o i)) s := by
  cases o with
  | none => rfl
  | some a =>
    show R.ok (D.bl (inV (.int (a : Nat)) [.non, .int (i : Nat)])) s = _
    congr 2
    show (false || (((i : Nat) : Int) == ((a : Nat) : Int) || false)) = decide (a = i)
    rw [Bool.false_or, Bool.or_false, Bool.eq_iff_iff, beq_iff_eq, decide_eq_true_eq]
    omega
section
variable {e l k : Nat} {c : Cf} {ns : List Int} {ro lo : Option Nat}
theorem lc_pred {ρ : Slots} {n : Nat} {p : Slots → S → R Bool} {f : Slots → S → R D} {q : Int → Bool} (hp : ∀ x s, p (ρ.set n (.fz (.int x))) s = .ok (q x) s) (hf : ∀ x s, f (ρ.set n (.fz (.int x))) s = .ok (.int x) s) (xs : List Int) (s : S) : lcL (gN n) p f ρ (intsD xs) s = .ok (intsD (xs.filter q)) s := lc_ints hp hf xs s
def inner_less : Slots → S → R Fl := seqS (setF 8 (dnd (b2 (inF false) (vr 2) (bC tupF (cnsA (kst .non) (cnsA (vr 5) nilA)))) (b2 (inF false) (vr 3) (bC tupF (cnsA (kst .non) (cnsA (vr 7) nilA))))))
    (appS 6 (bC tupleF (cnsA (mkL (lcF (seqI (b2 ixF (b2 ixF (b2 ixF (vr 0) (kst (.int 3))) (vr 5)) (vr 7))) (gN 9) (bor (bnt (tst (vr 8))) (tst (b2 (inF true) (vr 9) (vr 1)))) (vr 9) [9])) nilA)))
def outer_less : Slots → S → R Fl := seqS (setW 6 (litL nilA)) (seqS (forS (rgI rg1F (cnsA (b2 ixF (vr 0) (kst (.int 1))) nilA)) (gN 7) inner_less) (appS 4 (tupO 6)))
def last_less : Slots → S → R Fl := retS (iff (tst (b2 neqF (mkL (lcF (seqI (vr 4)) (gN 6) (tst (b2 inTF (bC tupF nilA) (vr 6))) (kst (.int 1)) [6])) (mkL (litL nilA)))) (mkL (litL (cnsA (kst .non) nilA))) (bC tupleF (cnsA (vr 4) nilA)))
theorem p_less_eq : p__law_less = seqS (setW 4 (litL nilA)) (seqS (forS (rgI rg1F (cnsA (b2 ixF (vr 0) (kst (.int 0))) nilA)) (gN 5) outer_less) last_less) := rfl
def rI (e l k : Nat) (c : Cf) (ns : List Int) (ro lo : Option Nat) (rows : List D) (i j : Nat) (cs : List D) (x8 x9 : Sl) : Slots := [.fz (netDD e l k c), .fz (.lst (intsD ns)), .fz (oD ro), .fz (oD lo), .ow (.ls rows), .fz (.int (0 + (i : Nat))), .ow (.ls cs), .fz (.int (0 + (j : Nat))), x8, x9]
theorem is_meant (rows cs : List D) (i j : Nat) (x8 x9 : Sl) (s : S) : dnd (b2 (inF false) (vr 2) (bC tupF (cnsA (kst .non) (cnsA (vr 5) nilA)))) (b2 (inF false) (vr 3) (bC tupF (cnsA (kst .non) (cnsA (vr 7) nilA)))) (rI e l k c ns ro lo rows i j cs x8 x9) s = .ok (.bl (meant ro lo i j)) s := by
  have z : ∀ n : Nat, (0 : Int) + (n : Nat) = (n : Nat) := fun n => Int.zero_add _
  have e1 : b2 (inF false) (vr 2) (bC tupF (cnsA (kst .non) (cnsA (vr 5) nilA))) (rI e l k c ns ro lo rows i j cs x8 x9) s = .ok (.bl (isO ro i)) s := by
    show inF false (oD ro) (.tup [.non, .int (0 + (i : Nat))]) s = _
    rw [z]
    exact in_pair ro i s
  have e2 : b2 (inF false) (vr 3) (bC tupF (cnsA (kst .non) (cnsA (vr 7) nilA))) (rI e l k c ns ro lo rows i j cs x8 x9) s = .ok (.bl (isO lo j)) s := by
    show inF false (oD lo) (.tup [.non, .int (0 + (j : Nat))]) s = _
    rw [z]
    exact in_pair lo j s
  unfold dnd
  rw [e1]
  show (if isO ro i = true then _ else R.ok (D.bl false) s) = _
  unfold meant
  cases isO ro i with
  | true =>
    rw [if_pos rfl, e2]
    rfl
  | false =>
    rw [if_neg Bool.false_ne_true]
    rfl
theorem net_at (s : S) {i j : Nat} (hi : i < e) (hj : j < l) (ρ : Slots) (h0 : ∀ s, vr 0 ρ s = .ok (netDD e l k c) s) (h5 : ∀ s, vr 5 ρ s = .ok (.int (0 + (i : Nat))) s) (h7 : ∀ s, vr 7 ρ s = .ok (.int (0 + (j : Nat))) s) :
    b2 ixF (b2 ixF (b2 ixF (vr 0) (kst (.int 3))) (vr 5)) (vr 7) ρ s = .ok (.tup (intsD (c i j))) s := by
  unfold b2
  rw [h0, net_eq]
  show (((vr 5 ρ s).bind fun y s => ixF (.rls (netRows e l c)) y s).bind fun x s => (vr 7 ρ s).bind fun y s => ixF x y s) = _
  rw [h5]
  have r1 : (netRows e l c)[i]? = some (.rls (cellsD l (c i))) := by
    unfold netRows
    rw [List.getElem?_map, List.getElem?_range hi]
    rfl
  have e1 : ixF (.rls (netRows e l c)) (.int (0 + (i : Nat))) s = .ok (.rls (cellsD l (c i))) s := by
    show (match L2.atI (netRows e l c) (0 + (i : Int)) with | some d => R.ok d s | none => .un) = _
    rw [Int.zero_add, atI_nat' r1]
  show ((ixF (.rls (netRows e l c)) (.int (0 + (i : Nat))) s).bind fun x s => (vr 7 ρ s).bind fun y s => ixF x y s) = _
  rw [e1]
  show (vr 7 ρ s).bind (fun y s => ixF (.rls (cellsD l (c i))) y s) = _
  rw [h7]
  have r2 : (cellsD l (c i))[j]? = some (.tup (intsD (c i j))) := by
    unfold cellsD
    rw [List.getElem?_map, List.getElem?_range hj]
    rfl
  show (match L2.atI (cellsD l (c i)) (0 + (j : Int)) with | some d => R.ok d s | none => .un) = _
  rw [Int.zero_add, atI_nat' r2]
theorem inner_eq (o : OkW e l k c) {i j : Nat} (hi : i < e) (hj : j < l) (rows cs : List D) (hcs : cs.length ≤ 1000) (x8 x9 : Sl) (s : S) :
    inner_less (rI e l k c ns ro lo rows i j cs x8 x9) s = .ok (.nx (rI e l k c ns ro lo rows i j (cs ++ [.tup (intsD (lessW c ns ro lo i j))]) (.fz (.bl (meant ro lo i j))) x9)) s := by
  have e1 : setF 8 (dnd (b2 (inF false) (vr 2) (bC tupF (cnsA (kst .non) (cnsA (vr 5) nilA)))) (b2 (inF false) (vr 3) (bC tupF (cnsA (kst .non) (cnsA (vr 7) nilA))))) (rI e l k c ns ro lo rows i j cs x8 x9) s = .ok (.nx (rI e l k c ns ro lo rows i j cs (.fz (.bl (meant ro lo i j))) x9)) s := by
    unfold setF
    rw [is_meant]
    rfl
  unfold inner_less seqS
  rw [e1]
  show appS 6 _ (rI e l k c ns ro lo rows i j cs (.fz (.bl (meant ro lo i j))) x9) s = _
  have e2 : lcF (seqI (b2 ixF (b2 ixF (b2 ixF (vr 0) (kst (.int 3))) (vr 5)) (vr 7))) (gN 9) (bor (bnt (tst (vr 8))) (tst (b2 (inF true) (vr 9) (vr 1)))) (vr 9) [9] (rI e l k c ns ro lo rows i j cs (.fz (.bl (meant ro lo i j))) x9) s = .ok (intsD (lessW c ns ro lo i j)) s := by
    unfold lcF seqI
    rw [net_at s hi hj _ (fun _ => rfl) (fun _ => rfl) (fun _ => rfl)]
    show (if fits (intsD (c i j)).length = true then _ else R.un) = _
    have hl : (intsD (c i j)).length ≤ 12 := by
      have e1 : (intsD (c i j)).length = (c i j).length := List.length_map _
      rw [e1]
      have := asc_len (o.ok i j hi hj).2.1 (fun x hx => (cell_in o hi hj hx)) (Int.natCast_nonneg k)
      have := o.k2
      omega
    rw [if_pos (by unfold fits; exact decide_eq_true (by omega))]
    have hq : lessW c ns ro lo i j = (c i j).filter fun x => !meant ro lo i j || !decide (x ∈ ns) := by
      unfold lessW keepN
      by_cases hm : meant ro lo i j = true
      · rw [if_pos hm, hm]
        rfl
      · have hm' : meant ro lo i j = false := Bool.eq_false_iff.mpr hm
        rw [if_neg hm, hm']
        exact (List.filter_eq_self.mpr fun _ _ => rfl).symm
    rw [hq]
    refine lc_ints (q := fun x => !meant ro lo i j || !decide (x ∈ ns)) (fun x s => ?_) (fun x s => rfl) (c i j) s
    have t1 : ∀ ρ : Slots, (∀ s, vr 8 ρ s = .ok (.bl (meant ro lo i j)) s) → (∀ s, vr 9 ρ s = .ok (.int x) s) → (∀ s, vr 1 ρ s = .ok (.lst (intsD ns)) s) → bor (bnt (tst (vr 8))) (tst (b2 (inF true) (vr 9) (vr 1))) ρ s = .ok (!meant ro lo i j || !decide (x ∈ ns)) s := fun ρ h8 h9 h1 => by
      unfold bor bnt tst b2
      rw [h8]
      show (if (!meant ro lo i j) = true then R.ok true s else ((vr 9 ρ s).bind fun x s => (vr 1 ρ s).bind fun y s => inF true x y s).bind bl') = _
      rw [h9]
      show (if (!meant ro lo i j) = true then R.ok true s else ((vr 1 ρ s).bind fun y s => inF true (.int x) y s).bind bl') = _
      rw [h1]
      show (if (!meant ro lo i j) = true then R.ok true s else (inF true (.int x) (.lst (intsD ns)) s).bind bl') = _
      rw [notin_its x ns (.lst (intsD ns)) rfl]
      cases meant ro lo i j with
      | true =>
        rw [if_neg (by decide)]
        rfl
      | false =>
        rw [if_pos (by decide)]
        rfl
    exact t1 _ (fun _ => rfl) (fun _ => rfl) (fun _ => rfl)
  have e3 : bC tupleF (cnsA (mkL (lcF (seqI (b2 ixF (b2 ixF (b2 ixF (vr 0) (kst (.int 3))) (vr 5)) (vr 7))) (gN 9) (bor (bnt (tst (vr 8))) (tst (b2 (inF true) (vr 9) (vr 1)))) (vr 9) [9])) nilA) (rI e l k c ns ro lo rows i j cs (.fz (.bl (meant ro lo i j))) x9) s = .ok (.tup (intsD (lessW c ns ro lo i j))) s := by
    unfold bC cnsA mkL
    rw [e2]
    rfl
  show (R.bind (bC tupleF _ (rI e l k c ns ro lo rows i j cs (.fz (.bl (meant ro lo i j))) x9) s) fun d s => if fits (cs.length + 1) = true then R.ok (Fl.nx ((rI e l k c ns ro lo rows i j cs (.fz (.bl (meant ro lo i j))) x9).set 6 (.ow (.ls (cs ++ [d]))))) s else .un) = _
  rw [e3]
  show (if fits (cs.length + 1) = true then _ else R.un) = _
  rw [if_pos (by unfold fits; exact decide_eq_true (by omega))]
  rfl
def rO (e l k : Nat) (c : Cf) (ns : List Int) (ro lo : Option Nat) (rows : List D) (x5 x6 x7 x8 x9 : Sl) : Slots := [.fz (netDD e l k c), .fz (.lst (intsD ns)), .fz (oD ro), .fz (oD lo), .ow (.ls rows), x5, x6, x7, x8, x9]
theorem rgB_nat {n : Nat} (hn : n ≤ 12) : rgB ((n : Nat) : Int) = true := by
  have h62 : (2 : Int) ^ 62 = 4611686018427387904 := by decide +kernel
  unfold rgB
  rw [h62, Bool.and_eq_true, decide_eq_true_eq, decide_eq_true_eq]
  omega
theorem seq_nx {F G : Slots → S → R Fl} {ρ ρ' : Slots} {s : S} (h : F ρ s = .ok (.nx ρ') s) : seqS F G ρ s = G ρ' s := by
  unfold seqS
  rw [h]
  rfl
theorem rg_of {f : Slots → S → R D} {ρ : Slots} {s : S} {n : Nat} (h : f ρ s = .ok (.int (n : Nat)) s) (hn : n ≤ 12) : rgI rg1F (cnsA f nilA) ρ s = .ok (rngD 0 n) s := by
  unfold rgI cnsA
  rw [h]
  simp only [R.bind, nilA, rg1F, rgB_nat hn, if_true, Int.toNat_natCast]
theorem outer_eq (o : OkW e l k c) {i : Nat} (hi : i < e) (rows : List D) (hr : rows.length ≤ 1000) (x6 x7 x8 x9 : Sl) (s : S) :
    ∃ y6 y7 y8 y9 : Sl, outer_less (rO e l k c ns ro lo rows (.fz (.int (0 + (i : Nat)))) x6 x7 x8 x9) s = .ok (.nx (rO e l k c ns ro lo (rows ++ [.tup (cellsD l (lessW c ns ro lo i))]) (.fz (.int (0 + (i : Nat)))) y6 y7 y8 y9)) s := by
  have e1 : setW 6 (litL nilA) (rO e l k c ns ro lo rows (.fz (.int (0 + (i : Nat)))) x6 x7 x8 x9) s = .ok (.nx (rO e l k c ns ro lo rows (.fz (.int (0 + (i : Nat)))) (.ow (.ls [])) x7 x8 x9)) s := rfl
  obtain ⟨ρ', e2, hP⟩ := for_rng (g := gN 7) (F := inner_less) (s := s) (fun j ρ => ∃ x7 x8, ρ = rO e l k c ns ro lo rows (.fz (.int (0 + (i : Nat)))) (.ow (.ls (cellsD j (lessW c ns ro lo i)))) x7 x8 x9) l 0 (ρ := rO e l k c ns ro lo rows (.fz (.int (0 + (i : Nat)))) (.ow (.ls [])) x7 x8 x9) ⟨x7, x8, rfl⟩
    fun j ρ _ hj ⟨y7, y8, hρ0⟩ => by
      refine ⟨rI e l k c ns ro lo rows i j (cellsD j (lessW c ns ro lo i)) y8 x9, rI e l k c ns ro lo rows i j (cellsD j (lessW c ns ro lo i) ++ [.tup (intsD (lessW c ns ro lo i j))]) (.fz (.bl (meant ro lo i j))) x9, ?_, ?_, ?_⟩
      · rw [hρ0]
        rfl
      · refine inner_eq o hi (by omega) rows _ ?_ y8 x9 s
        unfold cellsD
        rw [List.length_map, List.length_range]
        have := o.l2
        omega
      · exact ⟨_, _, by rw [cellsD_succ]; rfl⟩
  obtain ⟨y7, y8, hρ⟩ := hP
  refine ⟨.ow (.ls (cellsD l (lessW c ns ro lo i))), y7, y8, x9, ?_⟩
  have e3 : forS (rgI rg1F (cnsA (b2 ixF (vr 0) (kst (.int 1))) nilA)) (gN 7) inner_less (rO e l k c ns ro lo rows (.fz (.int (0 + (i : Nat)))) (.ow (.ls [])) x7 x8 x9) s = .ok (.nx ρ') s := by
    unfold forS
    have g1 : b2 ixF (vr 0) (kst (.int 1)) (rO e l k c ns ro lo rows (.fz (.int (0 + (i : Nat)))) (.ow (.ls [])) x7 x8 x9) s = .ok (.int (l : Nat)) s := by
      show ixF (netDD e l k c) (.int 1) s = _
      rw [net_eq]
      rfl
    rw [rg_of g1 (by have := o.l2; omega)]
    show forL (gN 7) inner_less (rngD 0 l) _ s = _
    rw [rngD_eq]
    exact e2
  rw [hρ] at e3
  unfold outer_less
  rw [seq_nx e1, seq_nx e3]
  show (R.bind (R.ok (D.tup (cellsD (0 + l) (lessW c ns ro lo i))) s) fun d s => if fits (rows.length + 1) = true then R.ok (Fl.nx ((rO e l k c ns ro lo rows (.fz (.int (0 + (i : Nat)))) (.ow (.ls (cellsD (0 + l) (lessW c ns ro lo i)))) y7 y8 x9).set 4 (.ow (.ls (rows ++ [d]))))) s else .un) = _
  show (if fits (rows.length + 1) = true then _ else R.un) = _
  rw [if_pos (by unfold fits; exact decide_eq_true (by omega)), Nat.zero_add]
  rfl
theorem less_loop (o : OkW e l k c) (s : S) : ∃ y5 y6 y7 y8 y9 : Sl, seqS (setW 4 (litL nilA)) (forS (rgI rg1F (cnsA (b2 ixF (vr 0) (kst (.int 0))) nilA)) (gN 5) outer_less) [.fz (netDD e l k c), .fz (.lst (intsD ns)), .fz (oD ro), .fz (oD lo), .no, .no, .no, .no, .no, .no] s =
    .ok (.nx (rO e l k c ns ro lo (rowsD e l (lessW c ns ro lo)) y5 y6 y7 y8 y9)) s := by
  have e1 : setW 4 (litL nilA) [.fz (netDD e l k c), .fz (.lst (intsD ns)), .fz (oD ro), .fz (oD lo), .no, .no, .no, .no, .no, .no] s = .ok (.nx (rO e l k c ns ro lo [] .no .no .no .no .no)) s := rfl
  obtain ⟨ρ', e2, hP⟩ := for_rng (g := gN 5) (F := outer_less) (s := s) (fun i ρ => ∃ x5 x6 x7 x8 x9, ρ = rO e l k c ns ro lo (rowsD i l (lessW c ns ro lo)) x5 x6 x7 x8 x9) e 0 (ρ := rO e l k c ns ro lo [] .no .no .no .no .no) ⟨.no, .no, .no, .no, .no, rfl⟩
    fun i ρ _ hi ⟨x5, x6, x7, x8, x9, hρ0⟩ => by
      obtain ⟨y6, y7, y8, y9, e3⟩ := outer_eq (ns := ns) (ro := ro) (lo := lo) o (i := i) (by omega) (rowsD i l (lessW c ns ro lo)) (by unfold rowsD; rw [List.length_map, List.length_range]; have := o.r2; omega) x6 x7 x8 x9 s
      refine ⟨_, _, ?_, e3, _, y6, y7, y8, y9, by rw [rowsD_succ]⟩
      rw [hρ0]
      rfl
  obtain ⟨y5, y6, y7, y8, y9, hρ⟩ := hP
  refine ⟨y5, y6, y7, y8, y9, ?_⟩
  rw [seq_nx e1]
  unfold forS
  have g1 : b2 ixF (vr 0) (kst (.int 0)) (rO e l k c ns ro lo [] .no .no .no .no .no) s = .ok (.int (e : Nat)) s := by
    show ixF (netDD e l k c) (.int 0) s = _
    rw [net_eq]
    rfl
  rw [rg_of g1 (by have := o.r2; omega)]
  show forL (gN 5) outer_less (rngD 0 e) _ s = _
  rw [rngD_eq, e2, hρ, Nat.zero_add]
end
end W2

set_option maxHeartbeats 1000000
/-! PwQ: the end of _law_less. -/
namespace W2
open PySem PySem.Spec PyProof.Rows L2 Pg Pf LamX Pp Tab Rul
theorem py_ints : ∀ ns : List Int, pyA (intsD ns) = ns.map PyData.int ∧ isPyA (intsD ns) = true
  | [] => ⟨rfl, rfl⟩
  | n :: ns => by
    obtain ⟨h1, h2⟩ := py_ints ns
    refine ⟨?_, ?_⟩
    · show PyData.int n :: pyA (intsD ns) = _
      rw [h1]
      rfl
    · show (true && isPyA (intsD ns)) = true
      rw [h2]
      rfl
theorem layI : ∀ ns : List Int, PyData.canLayAll0 (ns.map PyData.int) = true ∧ PyData.depthAll (ns.map PyData.int) = 0
  | [] => ⟨rfl, rfl⟩
  | n :: ns => by
    obtain ⟨h1, h2⟩ := layI ns
    refine ⟨?_, ?_⟩
    · show (true && PyData.canLayAll0 (ns.map PyData.int)) = true
      rw [h1]
      rfl
    · show max 0 (PyData.depthAll (ns.map PyData.int)) = 0
      rw [h2]
      rfl
def cellP (f : Nat → List Int) (js : List Nat) : List PyData := js.map fun j => .tuple ((f j).map PyData.int)
theorem py_cells (f : Nat → List Int) : ∀ js : List Nat, pyA (js.map fun j => D.tup (intsD (f j))) = cellP f js ∧ isPyA (js.map fun j => D.tup (intsD (f j))) = true ∧ PyData.canLayAll0 (cellP f js) = true ∧ PyData.depthAll (cellP f js) ≤ 1
  | [] => ⟨rfl, rfl, rfl, Nat.zero_le _⟩
  | j :: js => by
    obtain ⟨h1, h2, h3, h4⟩ := py_cells f js
    refine ⟨?_, ?_, ?_, ?_⟩
    · show PyData.tuple (pyA (intsD (f j))) :: pyA (js.map fun j => D.tup (intsD (f j))) = _
      rw [h1, (py_ints (f j)).1]
      rfl
    · show (isPyA (intsD (f j)) && isPyA (js.map fun j => D.tup (intsD (f j)))) = true
      rw [h2, (py_ints (f j)).2]
      rfl
    · show (PyData.canLayAll0 ((f j).map PyData.int) && PyData.canLayAll0 (cellP f js)) = true
      rw [h3, (layI (f j)).1]
      rfl
    · show max (PyData.depthAll ((f j).map PyData.int) + 1) (PyData.depthAll (cellP f js)) ≤ 1
      rw [(layI (f j)).2]
      omega
theorem any_empty (f : Nat → List Int) (js : List Nat) : ((cellP f js).any fun z => PyData.eqv z (.tuple [])) = js.any fun j => decide (f j = []) := by
  unfold cellP
  rw [List.any_map]
  congr 1
  funext j
  show PyData.eqv (.tuple ((f j).map PyData.int)) (.tuple []) = _
  cases f j with
  | nil => rfl
  | cons a as => rfl
theorem empty_in (l : Nat) (f : Nat → List Int) (s : S) : inTF (.tup []) (.tup (cellsD l f)) s = .ok (.bl ((List.range l).any fun j => decide (f j = []))) s := by
  obtain ⟨h1, h2, h3, h4⟩ := py_cells f (List.range l)
  have hs : SeqAt.shaped (.tuple (pyA (cellsD l f))) = true := by
    unfold SeqAt.shaped
    show (PyData.canLayAll0 (pyA (cellsD l f)) && decide (PyData.depthAll (pyA (cellsD l f)) + 1 ≤ 64)) = true
    have e : pyA (cellsD l f) = cellP f (List.range l) := h1
    rw [e, h3, decide_eq_true (by omega)]
    rfl
  have hp : isPyA (cellsD l f) = true := h2
  unfold inTF
  show (if (true && isPyA (cellsD l f) && true && SeqAt.shaped (.tuple (pyA (cellsD l f)))) = true then _ else R.un) = _
  rw [hs, hp, if_pos (by rfl)]
  have e : pyA (cellsD l f) = cellP f (List.range l) := h1
  rw [e]
  show R.ok (D.bl ((cellP f (List.range l)).any fun z => PyData.eqv z (.tuple []))) s = _
  rw [any_empty]
/-- the comprehension that counts rows with an empty entry -/
theorem lc_rows (l : Nat) (c' : Cf) {ρ : Slots} {p : Slots → S → R Bool} {f : Slots → S → R D} {n : Nat} (hp : ∀ i s, p (ρ.set n (.fz (.tup (cellsD l (c' i))))) s = .ok ((List.range l).any fun j => decide (c' i j = [])) s) (hf : ∀ i s, f (ρ.set n (.fz (.tup (cellsD l (c' i))))) s = .ok (.int 1) s) :
    ∀ (is : List Nat) (s : S), lcL (gN n) p f ρ (is.map fun i => .tup (cellsD l (c' i))) s = .ok ((is.filter fun i => (List.range l).any fun j => decide (c' i j = [])).map fun _ => .int 1) s
  | [], s => rfl
  | i :: is, s => by
    show (noex (p (ρ.set n (.fz (.tup (cellsD l (c' i))))) s)).bind _ = _
    rw [hp]
    show (if ((List.range l).any fun j => decide (c' i j = [])) = true then _ else _) = _
    have ih := lc_rows l c' hp hf is s
    by_cases h : ((List.range l).any fun j => decide (c' i j = [])) = true
    · rw [if_pos h, hf]
      show (lcL (gN n) p f ρ (is.map fun i => .tup (cellsD l (c' i))) s).bind _ = _
      rw [ih, List.filter_cons, if_pos h]
      rfl
    · rw [if_neg h, List.filter_cons, if_neg h]
      exact ih
section
variable {e l k : Nat} {c : Cf} {ns : List Int} {ro lo : Option Nat}
theorem lessW_nil (o : OkW e l k c) {i j : Nat} (hi : i < e) (hj : j < l) : (lessW c ns ro lo i j = []) ↔ badP c ns ro lo (i, j) = true := by
  unfold lessW badP
  by_cases hm : meant ro lo i j = true
  · rw [if_pos hm, hm, Bool.true_and, decide_eq_true_eq]
  · have hm' : meant ro lo i j = false := Bool.eq_false_iff.mpr hm
    rw [if_neg hm, hm', Bool.false_and]
    constructor
    · intro z
      exact absurd z (o.ok i j hi hj).1
    · intro z
      cases z
theorem bad_iff (o : OkW e l k c) : ((List.range e).filter fun i => (List.range l).any fun j => decide (lessW c ns ro lo i j = [])) = [] ↔ ¬ (pairsL e l).any (badP c ns ro lo) = true := by
  rw [List.filter_eq_nil_iff, List.any_eq_true]
  constructor
  · rintro h ⟨⟨i, j⟩, hm, hb⟩
    obtain ⟨hi, hj⟩ := mem_pairs.mp hm
    refine h i (List.mem_range.mpr hi) (List.any_eq_true.mpr ⟨j, List.mem_range.mpr hj, ?_⟩)
    rw [decide_eq_true_eq]
    exact (lessW_nil o hi hj).mpr hb
  · intro h i hi hany
    obtain ⟨j, hj, hb⟩ := List.any_eq_true.mp hany
    rw [decide_eq_true_eq] at hb
    exact h ⟨(i, j), mem_pairs.mpr ⟨List.mem_range.mp hi, List.mem_range.mp hj⟩, (lessW_nil o (List.mem_range.mp hi) (List.mem_range.mp hj)).mp hb⟩
theorem ones_ne (n : Nat) (xs : List Nat) (h : xs.length ≤ 12) (s : S) : neqF (.lst (xs.map fun _ => .int 1)) (.lst []) s = .ok (.bl (!decide (xs = []))) s := by
  have e1 : ∀ xs : List Nat, (xs.map fun _ => D.int 1) = intsD (xs.map fun _ => 1) := fun xs => by
    unfold intsD
    rw [List.map_map]
    rfl
  have hs : eqOk (.lst (xs.map fun _ => .int 1)) (.lst []) = true := by
    unfold eqOk
    rw [e1]
    show (isPyA (intsD (xs.map fun _ => 1)) && true && SeqAt.shaped (.list (pyA (intsD (xs.map fun _ => 1)))) && true) = true
    rw [(py_ints _).2, (py_ints _).1]
    have : SeqAt.shaped (.list ((xs.map fun _ => (1 : Int)).map PyData.int)) = true := by
      unfold SeqAt.shaped
      show (PyData.canLayAll0 ((xs.map fun _ => (1 : Int)).map PyData.int) && decide (PyData.depthAll ((xs.map fun _ => (1 : Int)).map PyData.int) + 1 ≤ 64)) = true
      rw [(layI _).1, (layI _).2]
      rfl
    rw [this]
    rfl
  unfold neqF
  rw [if_pos hs]
  cases xs with
  | nil => rfl
  | cons a as => rfl
theorem bl_ok (b : Bool) (s : S) : (R.bind (R.ok (D.bl b) s) bl' : R Bool) = .ok b s := rfl
theorem cond_row {f : Nat → List Int} (ρ : Slots) (h6 : ∀ s, vr 6 ρ s = .ok (.tup (cellsD l f)) s) (s : S) : tst (b2 inTF (bC tupF nilA) (vr 6)) ρ s = .ok ((List.range l).any fun j => decide (f j = [])) s := by
  have t : bC tupF nilA ρ s = .ok (.tup []) s := rfl
  unfold tst b2
  rw [t]
  show ((vr 6 ρ s).bind fun y s => inTF (.tup []) y s).bind bl' = _
  rw [h6]
  show (inTF (.tup []) (.tup (cellsD l f)) s).bind bl' = _
  rw [empty_in]
  rfl
theorem less_eq (o : OkW e l k c) (s : S) : runS p__law_less N__law_less.length [netDD e l k c, .lst (intsD ns), oD ro, oD lo] s = if (pairsL e l).any (badP c ns ro lo) = true then .ok (.lst [.non]) s else .ok (tabDD e l (lessW c ns ro lo)) s := by
  obtain ⟨y5, y6, y7, y8, y9, h⟩ := less_loop (ns := ns) (ro := ro) (lo := lo) o s
  unfold runS
  rw [p_less_eq]
  have assoc : ∀ {F G L : Slots → S → R Fl} {ρ ρ' : Slots}, seqS F G ρ s = .ok (.nx ρ') s → seqS F (seqS G L) ρ s = L ρ' s := fun {F G L ρ ρ'} hh => by
    unfold seqS at hh ⊢
    cases hF : F ρ s with
    | ok fl s1 =>
      rw [hF] at hh
      cases fl with
      | nx ρ1 =>
        replace hh : G ρ1 s1 = .ok (.nx ρ') s := hh
        show (G ρ1 s1).bind _ = _
        rw [hh]
        rfl
      | rt d => cases hh
      | bk r => cases hh
      | ct r => cases hh
    | ex e s1 =>
      rw [hF] at hh
      cases hh
    | un =>
      rw [hF] at hh
      cases hh
    | dr t f =>
      rw [hF] at hh
      cases hh
    | an P f =>
      rw [hF] at hh
      cases hh
  have e0 : st0 N__law_less.length [netDD e l k c, .lst (intsD ns), oD ro, oD lo] = [.fz (netDD e l k c), .fz (.lst (intsD ns)), .fz (oD ro), .fz (oD lo), .no, .no, .no, .no, .no, .no] := rfl
  rw [e0, assoc h]
  have e1 : mkL (lcF (seqI (vr 4)) (gN 6) (tst (b2 inTF (bC tupF nilA) (vr 6))) (kst (.int 1)) [6]) (allS (rO e l k c ns ro lo (rowsD e l (lessW c ns ro lo)) y5 y6 y7 y8 y9)) s = .ok (.lst (((List.range e).filter fun i => (List.range l).any fun j => decide (lessW c ns ro lo i j = [])).map fun _ => .int 1)) s := by
    unfold mkL lcF
    show (R.bind (if fits (rowsD e l (lessW c ns ro lo)).length = true then _ else R.un) _ : R D) = _
    have hl : (rowsD e l (lessW c ns ro lo)).length ≤ 12 := by
      unfold rowsD
      rw [List.length_map, List.length_range]
      have := o.r2
      omega
    rw [if_pos (by unfold fits; exact decide_eq_true (by omega))]
    unfold rowsD
    rw [lc_rows l (lessW c ns ro lo) (fun i s => ?_) (fun i s => rfl) (List.range e) s]
    · rfl
    · exact cond_row _ (fun _ => rfl) s
  have hlen : ((List.range e).filter fun i => (List.range l).any fun j => decide (lessW c ns ro lo i j = [])).length ≤ 12 := by
    have h1 := List.length_filter_le (fun i => (List.range l).any fun j => decide (lessW c ns ro lo i j = [])) (List.range e)
    rw [List.length_range] at h1
    have := o.r2
    omega
  have e2 : tst (b2 neqF (mkL (lcF (seqI (vr 4)) (gN 6) (tst (b2 inTF (bC tupF nilA) (vr 6))) (kst (.int 1)) [6])) (mkL (litL nilA))) (allS (rO e l k c ns ro lo (rowsD e l (lessW c ns ro lo)) y5 y6 y7 y8 y9)) s = .ok (decide ((pairsL e l).any (badP c ns ro lo) = true)) s := by
    unfold tst
    show (R.bind (R.bind (mkL (lcF (seqI (vr 4)) (gN 6) (tst (b2 inTF (bC tupF nilA) (vr 6))) (kst (.int 1)) [6]) (allS (rO e l k c ns ro lo (rowsD e l (lessW c ns ro lo)) y5 y6 y7 y8 y9)) s) fun x s => R.bind (mkL (litL nilA) (allS (rO e l k c ns ro lo (rowsD e l (lessW c ns ro lo)) y5 y6 y7 y8 y9)) s) fun y s => neqF x y s) bl' : R Bool) = _
    rw [e1]
    show (R.bind (neqF (.lst _) (.lst []) s) bl' : R Bool) = _
    rw [ones_ne 0 _ hlen, bl_ok]
    refine congrArg (fun b => R.ok b s) ?_
    rw [Bool.eq_iff_iff, Bool.not_eq_true', decide_eq_false_iff_not, decide_eq_true_eq, bad_iff o]
    exact Classical.not_not
  unfold last_less retS iff
  rw [e2]
  by_cases hb : (pairsL e l).any (badP c ns ro lo) = true
  · rw [if_pos hb]
    show (R.bind (R.bind (if decide ((pairsL e l).any (badP c ns ro lo) = true) = true then mkL (litL (cnsA (kst .non) nilA)) _ s else _) _) endF : R D) = _
    rw [if_pos (decide_eq_true hb)]
    rfl
  · rw [if_neg hb, tab_rows]
    show (R.bind (R.bind (if decide ((pairsL e l).any (badP c ns ro lo) = true) = true then mkL (litL (cnsA (kst .non) nilA)) _ s else _) _) endF : R D) = _
    rw [if_neg (by rw [decide_eq_true_eq]; exact hb)]
    rfl
end
end W2

/-! PwR: defs that make lambdas, as functions on data. -/
namespace W2
open PySem PySem.Spec PyProof.Rows L2 Pg Pf LamX Pp Tab Rul
/-- the name of the lambdas of a def -/
abbrev lamQ (x : Str) (sc : Scope) : Str := (envOfC x sc 0 0 .none).qual ++ "<lambda>"
/-- a def whose code object stands at c, with its table at P -/
structure FunT (K : PySem.W.Frag) (mg : Str → Option Value) (base : Heap) (T : List (Addr × Str)) (x : Str) (st : Stmt) (f : Addr) (fd : FuncData) (c P : Addr) : Prop where
  ex : ∃ (oc : Value) (od : Option Addr) (kV doc pm : Value) (an : Option Addr) (ct : Value) (osl : Array (Option Value)),
    fd = PySem.W.fnOf x x (defArgs st) (defBody st) (defScope st) .none kV doc pm an (.ref c) ct ∧ K.lookup f = some ⟨oc, od, .func fd, osl⟩ ∧ PySem.W.codeIn K (.ref c) x = true
  kp : PySem.W.keepIn K (.ref f) = true
  tb : TabB base mg c P
  mem : (P, lamQ x (defScope st)) ∈ T
  uni : ∀ p ∈ T, p.1 = P → p.2 = lamQ x (defScope st)
section
variable {P : Program} {w : World} {K : PySem.W.Frag} {mg : Str → Option Value} {base : Heap} {k : Nat} {f : Addr} {Z : Zn} {Fb : Slots → S → R Fl}
theorem fnTd {x : Str} {st : Stmt} {fd : FuncData} {N ps : List Str} {T : List (Addr × Str)} {c Pt : Addr} (F : FunT K mg base T x st f fd c Pt) (Sc : FnScope N ps (defScope st)) (hl : ps.length ≤ N.length)
    (hb : ∀ (A : Around) (outer : List PySem.Env) (s : Shared) (H : Hp) (E : XK), Room k (A.deeper (envOfC x (defScope st) s.heap.objs.size f (.ref c))) → (A.deeper (envOfC x (defScope st) s.heap.objs.size f (.ref c))).guards = some [] → ∃ t, PPS (cxOf CX0 P w K mg base N x (defScope st) f (.ref c) A outer s H E).nox Z E0 (defBody st) t Fb) :
    FnG P w K mg base (k + 1) f fd ps (spG K Z ps.length (runS Fb N.length)) := by
  obtain ⟨oc, od, kV, doc, pm, an, ct, osl, rfl, lk, hcd⟩ := F.ex
  refine fnG_of lk hcd Sc (fun vs H Q E h => h.1) fun A outer s H vs Q E hr hgd h => ?_
  obtain ⟨l, V, ds, s1, w1, r, a⟩ := h
  obtain ⟨t, h1, h2⟩ := hb A outer s H E hr hgd
  exact ⟨t, h1.nox, h2 s1 V H V H _ _ s1 _ (start_rep w1 r (by omega)) (run_ans a)⟩
end
end W2

/-! PwT: _law_closing_right, _law_allowing_right. -/
namespace W2
open PySem PySem.Spec PyProof.Rows L2 Pg Pf LamX Pp Tab Rul
theorem passX0 {X : Cx} : Passes (L2.CX X.prog X.w) X E0 := fun _ _ _ _ _ _ _ c => by
  obtain ⟨_, _, _, _, _, _, _, _, _, _, _, _, h⟩ := c
  exact h.elim
abbrev s__law_closing_right : Stmt := top 30
abbrev N__law_closing_right : List Str := ["_law_m", "_law_net_here", "_law_road", "_law_due", "_law_once", "_law_k", "_law_n", "_law_spots", "_law_again"]
theorem sc__law_closing_right : FnScope N__law_closing_right ["_law_m", "_law_net_here", "_law_road"] (defScope s__law_closing_right) := ⟨rfl, rfl, rfl, by decide +kernel, rfl, by decide +kernel, by decide +kernel⟩
noncomputable def p__law_closing_right : Slots → S → R Fl :=
  (seqS (setF 7 (mkL (lcF (rgI rg1F (cnsA (bC F_draw (cnsA (vr 0) (cnsA (kst (.int 5)) nilA))) nilA)) (gN 8) yesT (bC F_draw (cnsA (vr 0) (cnsA (b2 ixF (vr 1) (kst (.int 2))) nilA))) [8])))
    (seqS (asgS (bC tupF (cnsA (b2 ixF (mkL (litL (cnsA (kst .non) (cnsA (bC F_draw (cnsA (vr 0) (cnsA (b2 ixF (vr 1) (kst (.int 0))) nilA))) nilA)))) (bC F_draw (cnsA (vr 0) (cnsA (kst (.int 2)) nilA)))) (cnsA (b2 ixF (mkL (litL (cnsA (kst .non) (cnsA (bC F_draw (cnsA (vr 0) (cnsA (b2 ixF (vr 1) (kst (.int 1))) nilA))) nilA)))) (bC F_draw (cnsA (vr 0) (cnsA (kst (.int 2)) nilA)))) nilA))) (gT 2 (gsC (gN 6) (gsC (gN 5) gs0))))
    (seqS (setF 3 (bC (nF 4 (runS p__law_less N__law_less.length)) (cnsA (vr 1) (cnsA (vr 7) (cnsA (vr 6) (cnsA (vr 5) nilA))))))
    (seqS (ifS (tst (b2 (strF true) (bC reprF (cnsA (fun ρ s => tabR (bC (nF 4 (runS p__law_closed N__law_closed.length)) (cnsA (vr 2) (cnsA (vr 7) (cnsA (vr 6) (cnsA (vr 5) nilA)))) ρ s)) nilA)) (bC reprF (cnsA (vr 3) nilA)))) (retS (kst (.bl false))) nxS)
    (seqS (ifS (tst (b2 eqF (vr 3) (mkL (litL (cnsA (kst .non) nilA))))) (retS (kst (.bl true))) nxS)
    (seqS (setF 4 (bC (nF 4 (runS p__law_closed N__law_closed.length)) (cnsA (vr 2) (cnsA (vr 7) (cnsA (vr 6) (cnsA (vr 5) nilA))))))
    (retS (dnd (b2 (fun x y s => tell (P_eqw false) [x, y] s) (bC (nF 4 (runS p__law_closed N__law_closed.length)) (cnsA (vr 4) (cnsA (vr 7) (cnsA (vr 6) (cnsA (vr 5) nilA))))) (vr 4)) (b2 eqF (mkL (litL (cnsA (b1 (fldF 0 0) (vr 4)) (cnsA (b1 (fldF 0 1) (vr 4)) (cnsA (b1 (fldF 0 2) (vr 4)) nilA))))) (bC listF (cnsA (slX (vr 1) noO (soO (kst (.int 3)))) nilA)))))))))))
section
variable {P : Program} {w : World} {K : PySem.W.Frag} {mg : Str → Option Value} {base : Heap} {Z : Zn} {f c Pt : Addr} {fd : FuncData}
theorem ok__law_closing_right (B : Bt mg) (bL : mg "list" = none) (cD : CalG P w K mg base 3 "_law_draw" spDraw) (cLess : CalD P w K mg base Z 2 "_law_less" 4 (runS p__law_less N__law_less.length)) (cClosed : CalD P w K mg base Z 8 "_law_closed" 4 (runS p__law_closed N__law_closed.length)) (cOpened : CalD P w K mg base Z 8 "_law_opened" 4 (runS p__law_opened N__law_opened.length))
    (pRights : Pr P w K mg base (Z.cl 0) "rights" "_rights") (pLefts : Pr P w K mg base (Z.cl 0) "lefts" "_lefts") (pPlaces : Pr P w K mg base (Z.cl 0) "places" "_places") (pTable : Pr P w K mg base (Z.cl 0) "table" "_table")
    (we : We P w K mg base 2 5 (Z.cl 0) (spEqW K (Z.cl 0)) (spLenW K (Z.cl 0))) (nfC : PySem.W.notFirst K (Z.cl 0) (.ref (Z.cl 0)) = true) (tyC : ∀ {H : Hp} {a dx : Addr} {fs : List (Str × L2.V)}, H a = some (.ins (Z.cl 0) dx fs) → TyX K H (.ref a) (.ref (Z.cl 0)))
    (xf : XfC K (Z.cl 12)) (noV : PySem.W.findIn K (.ref (Z.cl 12)) "value" = some none) (gE : mg "InvalidPlaces" = some (.ref (Z.cl 12))) (emE : PySem.W.exmOne K (.ref (Z.cl 12)) (.ref (Z.cl 12)) = some true)
    {gT : Addr} {ocT dVT kVT docT pmT cdvT ctT : Value} {odT anT : Option Addr} {oslT : Array (Option Value)} (mgT : mg "_law_table_of" = some (.ref gT)) (kpT : PySem.W.keepIn K (.ref gT) = true)
    (lkT : K.lookup gT = some ⟨ocT, odT, .func (PySem.W.fnOf "_law_table_of" "_law_table_of" (defArgs s__law_table_of) (defBody s__law_table_of) (defScope s__law_table_of) dVT kVT docT pmT anT cdvT ctT), oslT⟩) (cdT : PySem.W.codeIn K cdvT "_law_table_of" = true)
    (bdT : Binds K (PySem.W.fnOf "_law_table_of" "_law_table_of" (defArgs s__law_table_of) (defBody s__law_table_of) (defScope s__law_table_of) dVT kVT docT pmT anT cdvT ctT) ["_law_call"] [])
    (F : FunT K mg base Z.T "_law_closing_right" s__law_closing_right f fd c Pt) : FnG P w K mg base 11 f fd ["_law_m", "_law_net_here", "_law_road"] (spG K Z 3 (runS p__law_closing_right N__law_closing_right.length)) := by
  have nd := sc__law_closing_right.nd
  refine fnTd F sc__law_closing_right (by decide) fun A outer s H E hr hgd => ?_
  refine ⟨_, (pss_cons (ps_set (i := 7) nd rfl (Or.inr rfl) (pe_lc (own := [("_law_again", 8)]) rfl nd (pi_range1 rfl B.range (pa_cons (pe_cG cD hr (by decide) hgd rfl (pa_cons (pv 0) (pa_cons pe_int pa_nil))) pa_nil)) (blkOk_by (N := N__law_closing_right) (sc := defScope s__law_closing_right) (by decide +kernel)) (fun _ _ _ _ _ => (pg_name (i := 8) nd rfl (Or.inl rfl))) (fun _ _ _ _ _ => pts_nil) (fun _ _ _ _ _ => (pe_cG cD hr (by decide) hgd rfl (pa_cons (pv 0) (pa_cons (pe_ix (show IxR _ (rIx K) from ix_seq) (pv 1) pe_int (fun _ _ => rfl)) pa_nil))))))
    (pss_cons (ps_asg (pe_tup (pa_cons (pe_ix ix_seq (pe_lst (pa_cons pe_non (pa_cons (pe_cG cD hr (by decide) hgd rfl (pa_cons (pv 0) (pa_cons (pe_ix ix_seq (pv 1) pe_int (fun _ _ => rfl)) pa_nil))) pa_nil))) (pe_cG cD hr (by decide) hgd rfl (pa_cons (pv 0) (pa_cons pe_int pa_nil))) (fun _ _ => rfl)) (pa_cons (pe_ix ix_seq (pe_lst (pa_cons pe_non (pa_cons (pe_cG cD hr (by decide) hgd rfl (pa_cons (pv 0) (pa_cons (pe_ix ix_seq (pv 1) pe_int (fun _ _ => rfl)) pa_nil))) pa_nil))) (pe_cG cD hr (by decide) hgd rfl (pa_cons (pv 0) (pa_cons pe_int pa_nil))) (fun _ _ => rfl)) pa_nil))) (pg_tup rfl (pgs_cons (pg_name (i := 6) nd rfl (Or.inr rfl)) (pgs_cons (pg_name (i := 5) nd rfl (Or.inr rfl)) pgs_nil))))
    (pss_cons (ps_set (i := 3) nd rfl (Or.inl rfl) (PP.pe (pp_call cLess hr (by decide) passX0 rfl ⟨(pa_cons (pv 1) (pa_cons (pv 7) (pa_cons (pv 6) (pa_cons (pv 5) pa_nil)))), (c_cons (c_var 1) (c_cons (c_var 7) (c_cons (c_var 6) (c_cons (c_var 5) c_nil))))⟩)))
    (pss_cons (ps_if (pt_cmpR op_ne (pe_callB (show CallR _ (.builtin "repr") (rReprD _) from call_reprD hgd hr.units) (by rfl) B.repr (by decide +kernel) (pa_cons (pe_lamcall (T := Z.T) (TT := TTab (Z.cl 0) (Z.cl 12)) (a := "_law_call") (Ng := N__law_table_of) (k := 8) (t := fun E => tCall (spD K Z 4 (runS p__law_closed N__law_closed.length)) [] E (tCons (tVar 2) (tCons (tVar 7) (tCons (tVar 6) (tCons (tVar 5) tNil))))) rfl mgT kpT lkT cdT bdT sc__law_table_of rfl (Or.inl rfl) (table_gives xf noV gE emE pTable (hr.mono (by decide))) F.tb rfl F.mem F.uni (hr.mono (by decide)) (lamS_by (by rfl)) rfl (fun _ _ _ _ _ => rfl) (fun A outer s H E f c' hr' => (PP.pe (pp_call cClosed hr' (by decide) (passes_call (takes_of rfl rfl rfl rfl) (fun _ _ _ _ h => h)) rfl ⟨(pa_cons (pv 2) (pa_cons (pv 7) (pa_cons (pv 6) (pa_cons (pv 5) pa_nil)))), (c_cons (c_var 2) (c_cons (c_var 7) (c_cons (c_var 6) (c_cons (c_var 5) c_nil))))⟩)))) pa_nil)) (pe_callB (show CallR _ (.builtin "repr") (rReprD _) from call_reprD hgd hr.units) (by rfl) B.repr (by decide +kernel) (pa_cons (pv 3) pa_nil)) (nomark _)) (pss_one (ps_ret pe_bl)) pss_nil)
    (pss_cons (ps_if (pt_cmpR (op_eqD hr.units) (pv 3) (pe_lst (pa_cons pe_non pa_nil)) (nomark _)) (pss_one (ps_ret pe_bl)) pss_nil)
    (pss_cons (ps_set (i := 4) nd rfl (Or.inl rfl) (PP.pe (pp_call cClosed hr (by decide) passX0 rfl ⟨(pa_cons (pv 2) (pa_cons (pv 7) (pa_cons (pv 6) (pa_cons (pv 5) pa_nil)))), (c_cons (c_var 2) (c_cons (c_var 7) (c_cons (c_var 6) (c_cons (c_var 5) c_nil))))⟩)))
    (pss_one (ps_ret (pe_and (pe_cmpR (op_eqW we hr (by decide)) (PP.pe (pp_call cClosed hr (by decide) passX0 rfl ⟨(pa_cons (pv 4) (pa_cons (pv 7) (pa_cons (pv 6) (pa_cons (pv 5) pa_nil)))), (c_cons (c_var 4) (c_cons (c_var 7) (c_cons (c_var 6) (c_cons (c_var 5) c_nil))))⟩)) (pv 4) (nomark _)) (pe_one (pe_cmpR (op_eqD hr.units) (pe_lst (pa_cons (pe_pr pRights hr (by decide) (pv 4)) (pa_cons (pe_pr pLefts hr (by decide) (pv 4)) (pa_cons (pe_pr pPlaces hr (by decide) (pv 4)) pa_nil)))) (pe_callTy call_list_of (by rfl) bL (by decide +kernel) (pa_cons (pe_slice sl_tupA (pv 1) po_none (po_some pe_int)) pa_nil)) (nomark _)))))))))))), ?_⟩
  exact (cs_seq (cs_setF 7 (c_mkL (cl_lc (ci_rng1 (c_cons (c_draw (c_cons (c_var 0) (c_cons (c_c fun _ => .int _) c_nil))) c_nil)) (cg_name 8) (by decide) c_yes (c_draw (c_cons (c_var 0) (c_cons (c_op c2_ix (c_var 1) (c_c fun _ => .int _)) c_nil))))))
    (cs_seq (cs_asg (c_tup (c_cons (c_op c2_ix (c_mkL (cl_lit (c_cons (c_c fun _ => .non) (c_cons (c_draw (c_cons (c_var 0) (c_cons (c_op c2_ix (c_var 1) (c_c fun _ => .int _)) c_nil))) c_nil)))) (c_draw (c_cons (c_var 0) (c_cons (c_c fun _ => .int _) c_nil)))) (c_cons (c_op c2_ix (c_mkL (cl_lit (c_cons (c_c fun _ => .non) (c_cons (c_draw (c_cons (c_var 0) (c_cons (c_op c2_ix (c_var 1) (c_c fun _ => .int _)) c_nil))) c_nil)))) (c_draw (c_cons (c_var 0) (c_cons (c_c fun _ => .int _) c_nil)))) c_nil))) (cg_tup (cg_cons (cg_name 6) (cg_cons (cg_name 5) cg_nil))))
    (cs_seq (cs_setF 3 (c_call' (c_cons (c_var 1) (c_cons (c_var 7) (c_cons (c_var 6) (c_cons (c_var 5) c_nil))))))
    (cs_seq (cs_if (c_tT (c_op c2_neS (c_call cC_repr (c_cons (c_lamT rfl rfl rfl fun E => c_call' (c_cons (c_var 2) (c_cons (c_var 7) (c_cons (c_var 6) (c_cons (c_var 5) c_nil))))) c_nil)) (c_call cC_repr (c_cons (c_var 3) c_nil)))) (cs_ret (c_c fun _ => .bl _)) cs_next)
    (cs_seq (cs_if (c_tT (c_op c2_eqD (c_var 3) (c_mkL (cl_lit (c_cons (c_c fun _ => .non) c_nil))))) (cs_ret (c_c fun _ => .bl _)) cs_next)
    (cs_seq (cs_setF 4 (c_call' (c_cons (c_var 2) (c_cons (c_var 7) (c_cons (c_var 6) (c_cons (c_var 5) c_nil))))))
    (cs_ret (c_andV (c_op (c2_eqw rfl false nfC tyC) (c_call' (c_cons (c_var 4) (c_cons (c_var 7) (c_cons (c_var 6) (c_cons (c_var 5) c_nil))))) (c_var 4)) (c_op c2_eqD (c_mkL (cl_lit (c_cons (c_prop (i := 0) (by decide +kernel) (by rfl) (c_var 4)) (c_cons (c_prop (i := 1) (by decide +kernel) (by rfl) (c_var 4)) (c_cons (c_prop (i := 2) (by decide +kernel) (by rfl) (c_var 4)) c_nil))))) (c_call cC_list (c_cons (c_sl (c_var 1) co_no (co_so (c_c fun _ => .int _))) c_nil)))))))))))
end
end W2

set_option maxHeartbeats 1000000
/-! PwU: _law_closing_right, evaluated. -/
namespace W2
open PySem PySem.Spec PyProof.Rows L2 Pg Pf LamX Pp Tab Rul
/-- what holds at all ends -/
inductive Al {α : Type} (P : α → S → Prop) : R α → Prop
  | ok {a : α} {s : S} (h : P a s) : Al P (.ok a s)
  | dr {t : Int} {f : Int → R α} (h : ∀ i, 0 ≤ i → i < t → Al P (f i)) : Al P (.dr t f)
  | an {A : D → S → Prop} {f : D → S → R α} (h : ∀ d s, A d s → Al P (f d s)) : Al P (.an A f)
theorem Al.bind {α β : Type} {P : α → S → Prop} {P' : β → S → Prop} {r : R α} {k : α → S → R β} (h : Al P r) (c : ∀ a s, P a s → Al P' (k a s)) : Al P' (r.bind k) := by
  induction h with
  | ok h => exact c _ _ h
  | dr h ih => exact .dr fun i h0 h1 => ih i h0 h1
  | an h ih => exact .an fun d s hp => ih d s hp
theorem Al.imp {α : Type} {P P' : α → S → Prop} {r : R α} (h : Al P r) (c : ∀ a s, P a s → P' a s) : Al P' r := by
  induction h with
  | ok h => exact .ok (c _ _ h)
  | dr h ih => exact .dr fun i h0 h1 => ih i h0 h1
  | an h ih => exact .an fun d s hp => ih d s hp
theorem Al.noex {α : Type} {P : α → S → Prop} {r : R α} (h : Al P r) : Al P (Pp.noex r) := by
  induction h with
  | ok h => exact .ok h
  | dr h ih => exact .dr fun i h0 h1 => ih i h0 h1
  | an h ih => exact .an fun d s hp => ih d s hp
theorem al_seq {P : Fl → S → Prop} {P1 : Slots → S → Prop} {F1 F2 : Slots → S → R Fl} {ρ : Slots} {s : S} (h : Al (fun a s => ∃ ρ', a = .nx ρ' ∧ P1 ρ' s) (F1 ρ s)) (c : ∀ ρ' s', P1 ρ' s' → Al P (F2 ρ' s')) : Al P (seqS F1 F2 ρ s) :=
  Al.bind h fun a s ⟨ρ', e, p⟩ => by
    subst e
    exact c ρ' s p
abbrev ms (m c q : Addr) (b : Nat) : S := some ⟨m, c, q, b⟩
theorem al_draw {m c q : Addr} {b : Nat} {t : Int} (h1 : 1 ≤ t) (h2 : t ≤ 1000) (h3 : b ≤ 1000000) : Al (fun d s => (∃ i : Int, d = .int i ∧ 0 ≤ i ∧ i < t) ∧ s = ms m c q (b + 1)) (F_draw [.adr m, .int t] (ms m c q b)) := by
  have e : F_draw [.adr m, .int t] (ms m c q b) = .dr t fun i => .ok (.int i) (ms m c q (b + 1)) := if_pos ⟨rfl, h1, h2, h3⟩
  rw [e]
  exact .dr fun i h0 h1 => .ok ⟨⟨i, rfl, h0, h1⟩, rfl⟩
/-- a comprehension that draws -/
theorem al_draws {m c q : Addr} {t : Int} (h1 : 1 ≤ t) (h2 : t ≤ 1000) {ρ : Slots} {n : Nat} {f : Slots → S → R D} (hf : ∀ d s, f (ρ.set n (.fz d)) s = F_draw [.adr m, .int t] s) :
    ∀ (ds : List D) (b : Nat), b + ds.length ≤ 1000000 → Al (fun es s => (∃ ns : List Int, es = intsD ns ∧ ns.length = ds.length ∧ ∀ x ∈ ns, 0 ≤ x ∧ x < t) ∧ s = ms m c q (b + ds.length)) (lcL (gN n) yesT f ρ ds (ms m c q b))
  | [], b, _ => .ok ⟨⟨[], rfl, rfl, fun x hx => by cases hx⟩, rfl⟩
  | d :: ds, b, hb => by
    rw [List.length_cons] at hb
    have e : lcL (gN n) yesT f ρ (d :: ds) (ms m c q b) = (Pp.noex (f (ρ.set n (.fz d)) (ms m c q b))).bind fun y s => (lcL (gN n) yesT f ρ ds s).bind fun ys s => .ok (y :: ys) s := rfl
    rw [e, hf]
    refine Al.bind (al_draw h1 h2 (by omega)).noex fun y s ⟨⟨i, e1, i0, i1⟩, e2⟩ => ?_
    subst e1 e2
    refine Al.bind (al_draws h1 h2 hf ds (b + 1) (by omega)) fun ys s ⟨⟨ns, e1, e2, e3⟩, e4⟩ => ?_
    subst e1 e4
    refine .ok ⟨⟨i :: ns, rfl, by rw [List.length_cons, List.length_cons, e2], fun x hx => ?_⟩, ?_⟩
    · rcases List.mem_cons.mp hx with rfl | hx
      · exact ⟨i0, i1⟩
      · exact e3 x hx
    · show ms m c q (b + 1 + ds.length) = ms m c q (b + (ds.length + 1))
      rw [show b + 1 + ds.length = b + (ds.length + 1) by omega]
/-- [None, draw][draw] -/
theorem al_opt {m c q : Addr} {b n : Nat} (hn : 1 ≤ n) (h2 : n ≤ 6) (hb : b ≤ 100000) {ρ : Slots} {g : Slots → S → R D} (hm : ∀ s, vr 0 ρ s = .ok (.adr m) s) (hg : ∀ s, g ρ s = .ok (.int (n : Nat)) s) :
    Al (fun d s => (∃ o : Option Nat, d = oD o ∧ ∀ i, o = some i → i < n) ∧ s = ms m c q (b + 2)) (b2 ixF (mkL (litL (cnsA (kst .non) (cnsA (bC F_draw (cnsA (vr 0) (cnsA g nilA))) nilA)))) (bC F_draw (cnsA (vr 0) (cnsA (kst (.int 2)) nilA))) ρ (ms m c q b)) := by
  have d1 : ∀ s, bC F_draw (cnsA (vr 0) (cnsA g nilA)) ρ s = F_draw [.adr m, .int (n : Nat)] s := fun s => by
    unfold bC cnsA
    rw [hm]
    show (R.bind (R.bind (R.bind (g ρ s) fun x s => (nilA ρ s).bind fun xs s => R.ok (x :: xs) s) fun xs s => R.ok (D.adr m :: xs) s) F_draw : R D) = _
    rw [hg]
    rfl
  have d2 : ∀ s, bC F_draw (cnsA (vr 0) (cnsA (kst (.int 2)) nilA)) ρ s = F_draw [.adr m, .int 2] s := fun s => by
    unfold bC cnsA
    rw [hm]
    rfl
  have e : b2 ixF (mkL (litL (cnsA (kst .non) (cnsA (bC F_draw (cnsA (vr 0) (cnsA g nilA))) nilA)))) (bC F_draw (cnsA (vr 0) (cnsA (kst (.int 2)) nilA))) ρ (ms m c q b) =
      ((((((bC F_draw (cnsA (vr 0) (cnsA g nilA)) ρ (ms m c q b)).bind fun x s => R.ok [x] s).bind fun xs s => R.ok (D.non :: xs) s).bind fun ds s => if fits ds.length = true then R.ok ds s else .un).bind fun ds s => R.ok (.lst ds) s).bind fun x s => (bC F_draw (cnsA (vr 0) (cnsA (kst (.int 2)) nilA)) ρ s).bind fun y s => ixF x y s) := rfl
  rw [e, d1]
  refine Al.bind (P := fun x s => ∃ i : Int, x = .lst [.non, .int i] ∧ 0 ≤ i ∧ i < (n : Nat) ∧ s = ms m c q (b + 1)) ?_ fun x s ⟨i, e1, i0, i1, e2⟩ => ?_
  · refine Al.bind (P := fun x s => ∃ i : Int, x = [.non, .int i] ∧ 0 ≤ i ∧ i < (n : Nat) ∧ s = ms m c q (b + 1)) ?_ fun x s ⟨i, e1, i0, i1, e2⟩ => by subst e1; exact .ok ⟨i, rfl, i0, i1, e2⟩
    refine Al.bind (P := fun x s => ∃ i : Int, x = [.non, .int i] ∧ 0 ≤ i ∧ i < (n : Nat) ∧ s = ms m c q (b + 1)) ?_ fun x s ⟨i, e1, i0, i1, e2⟩ => by subst e1; exact .ok ⟨i, rfl, i0, i1, e2⟩
    refine Al.bind (P := fun x s => ∃ i : Int, x = [.int i] ∧ 0 ≤ i ∧ i < (n : Nat) ∧ s = ms m c q (b + 1)) ?_ fun x s ⟨i, e1, i0, i1, e2⟩ => by subst e1; exact .ok ⟨i, rfl, i0, i1, e2⟩
    exact Al.bind (al_draw (by omega) (by omega) (by omega)) fun x s ⟨⟨i, e1, i0, i1⟩, e2⟩ => by subst e1; exact .ok ⟨i, rfl, i0, i1, e2⟩
  · subst e1 e2
    show Al _ ((bC F_draw (cnsA (vr 0) (cnsA (kst (.int 2)) nilA)) ρ (ms m c q (b + 1))).bind fun y s => ixF (.lst [.non, .int i]) y s)
    rw [d2]
    refine Al.bind (al_draw (by decide) (by decide) (by omega)) fun y s ⟨⟨j, e1, j0, j1⟩, e2⟩ => ?_
    subst e1 e2
    rcases (show j = 0 ∨ j = 1 by omega) with rfl | rfl
    · exact .ok ⟨⟨none, rfl, fun i z => by cases z⟩, rfl⟩
    · refine .ok ⟨⟨some i.toNat, ?_, fun a z => by
        cases z
        omega⟩, rfl⟩
      show D.int i = .int ((i.toNat : Nat) : Int)
      congr 1
      omega
section
variable {e l k : Nat} {c : Cf} {ns : List Int} {ro lo : Option Nat}
theorem py_tab (e l : Nat) (c : Cf) : (tabDD e l c).py = tabT (tabF e l c) ∧ (tabDD e l c).isPy = true := by
  have rows : ∀ is : List Nat, pyA (is.map fun i => D.tup (cellsD l (c i))) = is.map (fun i => rowT ((List.range l).map fun j => c i j)) ∧ isPyA (is.map fun i => D.tup (cellsD l (c i))) = true := fun is => by
    induction is with
    | nil => exact ⟨rfl, rfl⟩
    | cons i is ih =>
      obtain ⟨h1, h2, _, _⟩ := py_cells (c i) (List.range l)
      refine ⟨?_, ?_⟩
      · show PyData.tuple (pyA (cellsD l (c i))) :: pyA (is.map fun i => D.tup (cellsD l (c i))) = _
        rw [ih.1, show pyA (cellsD l (c i)) = cellP (c i) (List.range l) from h1]
        show PyData.tuple (cellP (c i) (List.range l)) :: _ = rowT ((List.range l).map fun j => c i j) :: _
        congr 1
        show _ = PyData.tuple (((List.range l).map fun j => c i j).map cellD)
        rw [List.map_map]
        rfl
      · show (isPyA (cellsD l (c i)) && isPyA (is.map fun i => D.tup (cellsD l (c i)))) = true
        rw [ih.2, show isPyA (cellsD l (c i)) = true from h2]
        rfl
  rw [tab_rows]
  refine ⟨?_, (rows (List.range e)).2⟩
  show PyData.tuple (pyA ((List.range e).map fun i => D.tup (cellsD l (c i)))) = PyData.tuple (((List.range e).map fun i => (List.range l).map fun j => c i j).map rowT)
  rw [(rows (List.range e)).1, List.map_map]
  rfl
theorem fine_way (o : OkW e l k c) : Fine 3 13866 (tabT (tabF e l c)) := fine_tabT (k := (k : Int)) o.ok (by have := o.k2; omega) o.r2 o.l2
theorem repr_tab (o : OkW e l k c) : reprOk (tabDD e l c) := by
  have f := fine_way o
  obtain ⟨h1, h2⟩ := py_tab e l c
  refine ⟨h2, by rw [tab_rows]; rfl, ?_, ?_, ?_, ?_⟩
  · rw [h1]
    exact f.sh
  · rw [h1]
    exact f.nodict
  · rw [h1]
    exact Nat.le_trans f.dp (by decide)
  · rw [h1]
    exact f.fits (by decide)
theorem repr_none : reprOk (.lst [.non]) := ⟨rfl, rfl, rfl, rfl, by decide, by
  show (PyData.list [.none]).shown.length ≤ sizeLine
  have : (PyData.list [.none]).shown.length ≤ 100 := by decide +kernel
  exact Nat.le_trans this (by decide)⟩
theorem ne_str (x : Str) (s : S) : strF true (.str x) (.str x) s = .ok (.bl false) s := by
  show R.ok (D.bl (!decide (x = x))) s = _
  rw [decide_eq_true rfl]
  rfl
theorem lessW_twice (c : Cf) (ns : List Int) (ro lo : Option Nat) : lessW (lessW c ns ro lo) ns ro lo = lessW c ns ro lo := by
  funext i j
  unfold lessW keepN
  by_cases hm : meant ro lo i j = true
  · rw [if_pos hm]
    show List.filter (fun x => !decide (x ∈ ns)) (if meant ro lo i j = true then List.filter (fun x => !decide (x ∈ ns)) (c i j) else c i j) = _
    rw [if_pos hm, List.filter_filter]
    refine List.filter_congr fun x _ => ?_
    rw [Bool.and_self]
  · rw [if_neg hm]
theorem bad_twice (h : (pairsL e l).any (badP c ns ro lo) = false) : (pairsL e l).any (badP (lessW c ns ro lo) ns ro lo) = false := by
  rw [List.any_eq_false] at h ⊢
  intro p hp hb
  refine h p hp ?_
  unfold badP at hb ⊢
  rw [Bool.and_eq_true, decide_eq_true_eq] at hb ⊢
  refine ⟨hb.1, ?_⟩
  have h2 := hb.2
  unfold keepN lessW at h2
  rw [if_pos hb.1] at h2
  unfold keepN at h2 ⊢
  rw [List.filter_filter] at h2
  rw [← h2]
  refine List.filter_congr fun x _ => ?_
  rw [Bool.and_self]
end
end W2

set_option maxHeartbeats 1000000
/-! PwV: _law_closing_right is true. -/
namespace W2
open PySem PySem.Spec PyProof.Rows L2 Pg Pf LamX Pp Tab Rul
section
variable {e l k : Nat} {c : Cf} {ns : List Int} {ro lo : Option Nat} {m a q : Addr} {b : Nat}
/-- the slots of _law_closing_right -/
def rK (m : Addr) (e l k : Nat) (c : Cf) (x3 x4 x5 x6 x7 x8 : Sl) : Slots := [.fz (.adr m), .fz (netDD e l k c), .fz (wayD e l k c), x3, x4, x5, x6, x7, x8]
theorem net_ix (n : Nat) (v : Int) (h : ∀ s, ixF (.tup [.int (e : Nat), .int (l : Nat), .int (k : Nat), .rls (netRows e l c)]) (.int (n : Nat)) s = .ok (.int v) s) (ρ : Slots) (h1 : ∀ s, vr 1 ρ s = .ok (netDD e l k c) s) (s : S) : b2 ixF (vr 1) (kst (.int (n : Nat))) ρ s = .ok (.int v) s := by
  unfold b2
  rw [h1, net_eq]
  exact h s
theorem st_spots (o : OkW e l k c) (hb : b ≤ 50000) : Al (fun f s => ∃ ρ', f = .nx ρ' ∧ ∃ (ns : List Int) (b' : Nat), ns.length ≤ 4 ∧ (∀ x ∈ ns, 0 ≤ x ∧ x < (k : Int)) ∧ ρ' = rK m e l k c .no .no .no .no (.fz (.lst (intsD ns))) .no ∧ s = ms m a q b' ∧ b' ≤ b + 5)
    (setF 7 (mkL (lcF (rgI rg1F (cnsA (bC F_draw (cnsA (vr 0) (cnsA (kst (.int 5)) nilA))) nilA)) (gN 8) yesT (bC F_draw (cnsA (vr 0) (cnsA (b2 ixF (vr 1) (kst (.int 2))) nilA))) [8])) (rK m e l k c .no .no .no .no .no .no) (ms m a q b)) := by
  have k1 := o.k1
  have k2 := o.k2
  unfold setF mkL
  refine Al.bind (P := fun d s => ∃ (ns : List Int) (b' : Nat), d = .lst (intsD ns) ∧ ns.length ≤ 4 ∧ (∀ x ∈ ns, 0 ≤ x ∧ x < (k : Int)) ∧ s = ms m a q b' ∧ b' ≤ b + 5) ?_ fun d s ⟨ns, b', e1, e2, e3, e4, e5⟩ => by
    subst e1 e4
    exact .ok ⟨_, rfl, ns, b', e2, e3, rfl, rfl, e5⟩
  refine Al.bind (P := fun ds s => ∃ (ns : List Int) (b' : Nat), ds = intsD ns ∧ ns.length ≤ 4 ∧ (∀ x ∈ ns, 0 ≤ x ∧ x < (k : Int)) ∧ s = ms m a q b' ∧ b' ≤ b + 5) ?_ fun d s ⟨ns, b', e1, e2, e3, e4, e5⟩ => by
    subst e1 e4
    exact .ok ⟨ns, b', rfl, e2, e3, rfl, e5⟩
  unfold lcF
  refine Al.bind (P := fun ds s => ds.length ≤ 4 ∧ s = ms m a q (b + 1)) ?_ fun ds s ⟨e1, e2⟩ => ?_
  · unfold rgI cnsA
    refine Al.bind (P := fun ds s => ∃ i : Int, ds = [.int i] ∧ 0 ≤ i ∧ i < 5 ∧ s = ms m a q (b + 1)) ?_ fun ds s ⟨i, e1, i0, i1, e2⟩ => ?_
    · refine Al.bind (P := fun d s => ∃ i : Int, d = .int i ∧ 0 ≤ i ∧ i < 5 ∧ s = ms m a q (b + 1)) ?_ fun d s ⟨i, e1, i0, i1, e2⟩ => by
        subst e1
        exact .ok ⟨i, rfl, i0, i1, e2⟩
      show Al _ (F_draw [.adr m, .int 5] (ms m a q b))
      exact (al_draw (by decide) (by decide) (by omega)).imp fun d s ⟨⟨i, e1, i0, i1⟩, e2⟩ => ⟨i, e1, i0, i1, e2⟩
    · subst e1 e2
      obtain ⟨n, rfl⟩ : ∃ n : Nat, i = n := ⟨i.toNat, by omega⟩
      have hn : n < 5 := by omega
      have : rg1F [.int (n : Nat)] (ms m a q (b + 1)) = .ok (rngD 0 n) (ms m a q (b + 1)) := by simp only [rg1F, rgB_nat (show n ≤ 12 by omega), if_true, Int.toNat_natCast]
      rw [this]
      refine .ok ⟨?_, rfl⟩
      rw [rngD_len]
      omega
  · subst e2
    rw [if_pos (by unfold fits; exact decide_eq_true (by omega))]
    refine (al_draws (t := (k : Int)) (by omega) (by omega) (fun d s => ?_) ds (b + 1) (by omega)).imp fun es s ⟨⟨ns, e1, e2, e3⟩, e4⟩ => ⟨ns, b + 1 + ds.length, e1, by omega, e3, e4, by omega⟩
    show bC F_draw (cnsA (vr 0) (cnsA (b2 ixF (vr 1) (kst (.int 2))) nilA)) (rK m e l k c .no .no .no .no .no (.fz d)) s = _
    unfold bC cnsA
    show (R.bind (R.bind (R.bind (b2 ixF (vr 1) (kst (.int 2)) (rK m e l k c .no .no .no .no .no (.fz d)) s) fun x s => (nilA (rK m e l k c .no .no .no .no .no (.fz d)) s).bind fun xs s => R.ok (x :: xs) s) fun xs s => R.ok (D.adr m :: xs) s) F_draw : R D) = _
    rw [show b2 ixF (vr 1) (kst (.int 2)) (rK m e l k c .no .no .no .no .no (.fz d)) s = .ok (.int (k : Nat)) s from net_ix 2 k (fun _ => rfl) _ (fun _ => rfl) s]
    rfl
theorem st_pair (o : OkW e l k c) (hb : b ≤ 60000) : Al (fun f s => ∃ ρ', f = .nx ρ' ∧ ∃ (ro lo : Option Nat) (b' : Nat), (∀ i, ro = some i → i < e) ∧ (∀ j, lo = some j → j < l) ∧ ρ' = rK m e l k c .no .no (.fz (oD lo)) (.fz (oD ro)) (.fz (.lst (intsD ns))) .no ∧ s = ms m a q b' ∧ b' ≤ b + 4)
    (asgS (bC tupF (cnsA (b2 ixF (mkL (litL (cnsA (kst .non) (cnsA (bC F_draw (cnsA (vr 0) (cnsA (b2 ixF (vr 1) (kst (.int 0))) nilA))) nilA)))) (bC F_draw (cnsA (vr 0) (cnsA (kst (.int 2)) nilA)))) (cnsA (b2 ixF (mkL (litL (cnsA (kst .non) (cnsA (bC F_draw (cnsA (vr 0) (cnsA (b2 ixF (vr 1) (kst (.int 1))) nilA))) nilA)))) (bC F_draw (cnsA (vr 0) (cnsA (kst (.int 2)) nilA)))) nilA))) (gT 2 (gsC (gN 6) (gsC (gN 5) gs0))) (rK m e l k c .no .no .no .no (.fz (.lst (intsD ns))) .no) (ms m a q b)) := by
  unfold asgS
  refine Al.bind (P := fun d s => ∃ (ro lo : Option Nat), d = .tup [oD ro, oD lo] ∧ (∀ i, ro = some i → i < e) ∧ (∀ j, lo = some j → j < l) ∧ s = ms m a q (b + 4)) ?_ fun d s ⟨ro, lo, e1, e2, e3, e4⟩ => by
    subst e1 e4
    exact .ok ⟨_, rfl, ro, lo, b + 4, e2, e3, rfl, rfl, Nat.le_refl _⟩
  unfold bC
  refine Al.bind (P := fun d s => ∃ (ro lo : Option Nat), d = [oD ro, oD lo] ∧ (∀ i, ro = some i → i < e) ∧ (∀ j, lo = some j → j < l) ∧ s = ms m a q (b + 4)) ?_ fun d s ⟨ro, lo, e1, e2, e3, e4⟩ => by
    subst e1 e4
    exact .ok ⟨ro, lo, rfl, e2, e3, rfl⟩
  unfold cnsA
  refine Al.bind (al_opt (b := b) (q := q) (c := a) o.r1 o.r2 (by omega) (fun _ => rfl) (fun s => net_ix 0 e (fun _ => rfl) _ (fun _ => rfl) s)) fun d s ⟨⟨ro, e1, e2⟩, e3⟩ => ?_
  subst e1 e3
  refine Al.bind (P := fun d s => ∃ (lo : Option Nat), d = [oD lo] ∧ (∀ j, lo = some j → j < l) ∧ s = ms m a q (b + 4)) ?_ fun d s ⟨lo, e1, e3, e4⟩ => by
    subst e1 e4
    exact .ok ⟨ro, lo, rfl, e2, e3, rfl⟩
  refine Al.bind (al_opt (b := b + 2) (q := q) (c := a) o.l1 o.l2 (by omega) (fun _ => rfl) (fun s => net_ix 1 l (fun _ => rfl) _ (fun _ => rfl) s)) fun d s ⟨⟨lo, e1, e3⟩, e4⟩ => ?_
  subst e1 e4
  exact .ok ⟨lo, rfl, e3, rfl⟩
def dueD (e l : Nat) (c : Cf) (ns : List Int) (ro lo : Option Nat) : D := if (pairsL e l).any (badP c ns ro lo) = true then .lst [.non] else tabDD e l (lessW c ns ro lo)
theorem dnd_tt {f g : Slots → S → R D} {ρ : Slots} {s : S} {d : D} (h1 : f ρ s = .ok (.bl true) s) (h2 : g ρ s = .ok d s) : dnd f g ρ s = .ok d s := by
  unfold dnd
  rw [h1]
  show (if true = true then g ρ s else R.ok (.bl false) s) = _
  rw [if_pos rfl, h2]
theorem bC_of {op : List D → S → R D} {fa : Slots → S → R (List D)} {ρ : Slots} {s s' : S} {ds : List D} (h : fa ρ s = .ok ds s') : bC op fa ρ s = op ds s' := by
  unfold bC
  rw [h]
  rfl
theorem nF_of {n : Nat} {F : List D → S → R D} {ds : List D} {s : S} (h : ds.length = n) : nF n F ds s = F ds s := if_pos h
theorem eqw_eq {e' l' k' : Nat} {c' : Cf} (o : OkW e l k c) (o' : OkW e' l' k' c') (s : S) : tell (P_eqw false) [wayD e l k c, wayD e' l' k' c'] s = .ok (.bl (decide (k = k') && decide (tabF e l c = tabF e' l' c'))) s := by
  refine tell_of ⟨e, l, k, e', l', k', c, c', rfl, o, o', rfl⟩ fun r' ⟨f, g, h, f', g', h', d, d', hh, _, _, q⟩ => ?_
  injection hh with h1 hh
  injection hh with h2 _
  obtain ⟨rfl, rfl, rfl, t1⟩ := wayD_inj h1
  obtain ⟨rfl, rfl, rfl, t2⟩ := wayD_inj h2
  rw [q, t1, t2]
  rfl
theorem tabR_eq (o : OkW e l k c) (hr : ∀ i, ro = some i → i < e) (hl : ∀ j, lo = some j → j < l) (hn : ns.length ≤ 4) (hv : ∀ x ∈ ns, 0 ≤ x ∧ x < (k : Int)) (s : S) :
    tabR (runS p__law_closed N__law_closed.length [wayD e l k c, .lst (intsD ns), oD ro, oD lo] s) = .ok (dueD e l c ns ro lo) s := by
  rw [closed_eq o hr hl hn hv]
  unfold dueD
  by_cases hb : (pairsL e l).any (badP c ns ro lo) = true
  · rw [if_pos hb, if_pos hb]
    rfl
  · rw [if_neg hb, if_neg hb]
    rfl
theorem due_repr (o : OkW e l k c) : reprOk (dueD e l c ns ro lo) := by
  unfold dueD
  by_cases hb : (pairsL e l).any (badP c ns ro lo) = true
  · rw [if_pos hb]
    exact repr_none
  · rw [if_neg hb]
    exact repr_tab (lessW_ok o (Bool.eq_false_iff.mpr hb))
theorem eq_same (ns : List Int) (s : S) : eqF (.lst (intsD ns)) (.lst (intsD ns)) s = .ok (.bl true) s := by
  have hl : PyData.canLay0 (.list (ns.map PyData.int)) = true := (layI ns).1
  have hs : SeqAt.shaped (.list (ns.map PyData.int)) = true := by
    unfold SeqAt.shaped
    show (PyData.canLayAll0 (ns.map PyData.int) && decide (PyData.depthAll (ns.map PyData.int) + 1 ≤ 64)) = true
    rw [(layI ns).1, (layI ns).2]
    rfl
  have e1 : (D.lst (intsD ns)).py = .list (ns.map PyData.int) := by
    show PyData.list (pyA (intsD ns)) = _
    rw [(py_ints ns).1]
  have ok : eqOk (.lst (intsD ns)) (.lst (intsD ns)) = true := by
    unfold eqOk
    rw [e1, hs, show (D.lst (intsD ns)).isPy = true from (py_ints ns).2]
    rfl
  unfold eqF
  rw [if_pos ok, e1, eqv_rfl _ hl]
theorem st_rest (o : OkW e l k c) (hr : ∀ i, ro = some i → i < e) (hl : ∀ j, lo = some j → j < l) (hn : ns.length ≤ 4) (hv : ∀ x ∈ ns, 0 ≤ x ∧ x < (k : Int)) (s : S) :
    (seqS (setF 3 (bC (nF 4 (runS p__law_less N__law_less.length)) (cnsA (vr 1) (cnsA (vr 7) (cnsA (vr 6) (cnsA (vr 5) nilA))))))
    (seqS (ifS (tst (b2 (strF true) (bC reprF (cnsA (fun ρ s => tabR (bC (nF 4 (runS p__law_closed N__law_closed.length)) (cnsA (vr 2) (cnsA (vr 7) (cnsA (vr 6) (cnsA (vr 5) nilA)))) ρ s)) nilA)) (bC reprF (cnsA (vr 3) nilA)))) (retS (kst (.bl false))) nxS)
    (seqS (ifS (tst (b2 eqF (vr 3) (mkL (litL (cnsA (kst .non) nilA))))) (retS (kst (.bl true))) nxS)
    (seqS (setF 4 (bC (nF 4 (runS p__law_closed N__law_closed.length)) (cnsA (vr 2) (cnsA (vr 7) (cnsA (vr 6) (cnsA (vr 5) nilA))))))
    (retS (dnd (b2 (fun x y s => tell (P_eqw false) [x, y] s) (bC (nF 4 (runS p__law_closed N__law_closed.length)) (cnsA (vr 4) (cnsA (vr 7) (cnsA (vr 6) (cnsA (vr 5) nilA))))) (vr 4)) (b2 eqF (mkL (litL (cnsA (b1 (fldF 0 0) (vr 4)) (cnsA (b1 (fldF 0 1) (vr 4)) (cnsA (b1 (fldF 0 2) (vr 4)) nilA))))) (bC listF (cnsA (slX (vr 1) noO (soO (kst (.int 3)))) nilA))))))))) (rK m e l k c .no .no (.fz (oD lo)) (.fz (oD ro)) (.fz (.lst (intsD ns))) .no) s = .ok (.rt (.bl true)) s := by
  have e3 : setF 3 (bC (nF 4 (runS p__law_less N__law_less.length)) (cnsA (vr 1) (cnsA (vr 7) (cnsA (vr 6) (cnsA (vr 5) nilA))))) (rK m e l k c .no .no (.fz (oD lo)) (.fz (oD ro)) (.fz (.lst (intsD ns))) .no) s = .ok (.nx (rK m e l k c (.fz (dueD e l c ns ro lo)) .no (.fz (oD lo)) (.fz (oD ro)) (.fz (.lst (intsD ns))) .no)) s := by
    have hF : bC (nF 4 (runS p__law_less N__law_less.length)) (cnsA (vr 1) (cnsA (vr 7) (cnsA (vr 6) (cnsA (vr 5) nilA)))) (rK m e l k c .no .no (.fz (oD lo)) (.fz (oD ro)) (.fz (.lst (intsD ns))) .no) s = .ok (dueD e l c ns ro lo) s := by
      have a1 : cnsA (vr 1) (cnsA (vr 7) (cnsA (vr 6) (cnsA (vr 5) nilA))) (rK m e l k c .no .no (.fz (oD lo)) (.fz (oD ro)) (.fz (.lst (intsD ns))) .no) s = .ok [netDD e l k c, .lst (intsD ns), oD ro, oD lo] s := rfl
      rw [bC_of a1, nF_of (n := 4) (ds := [netDD e l k c, .lst (intsD ns), oD ro, oD lo]) rfl, less_eq o]
      unfold dueD
      by_cases hb : (pairsL e l).any (badP c ns ro lo) = true
      · rw [if_pos hb, if_pos hb]
      · rw [if_neg hb, if_neg hb]
    unfold setF
    rw [hF]
    rfl
  rw [seq_nx e3]
  obtain ⟨ρ3, h3⟩ : ∃ ρ3 : Slots, ρ3 = rK m e l k c (.fz (dueD e l c ns ro lo)) .no (.fz (oD lo)) (.fz (oD ro)) (.fz (.lst (intsD ns))) .no := ⟨_, rfl⟩
  have all3 : allS ρ3 = ρ3 := by rw [h3]; rfl
  have cl3 : bC (nF 4 (runS p__law_closed N__law_closed.length)) (cnsA (vr 2) (cnsA (vr 7) (cnsA (vr 6) (cnsA (vr 5) nilA)))) ρ3 s = runS p__law_closed N__law_closed.length [wayD e l k c, .lst (intsD ns), oD ro, oD lo] s := by
    rw [h3]
    show nF 4 (runS p__law_closed N__law_closed.length) [wayD e l k c, .lst (intsD ns), oD ro, oD lo] s = _
    unfold nF
    rw [if_pos (by rfl)]
  have rp : ∀ s, reprF [dueD e l c ns ro lo] s = .ok (.str (dueD e l c ns ro lo).py.shown) s := fun s => if_pos (due_repr o)
  have t1 : tst (b2 (strF true) (bC reprF (cnsA (fun ρ s => tabR (bC (nF 4 (runS p__law_closed N__law_closed.length)) (cnsA (vr 2) (cnsA (vr 7) (cnsA (vr 6) (cnsA (vr 5) nilA)))) ρ s)) nilA)) (bC reprF (cnsA (vr 3) nilA))) ρ3 s = .ok false s := by
    have r1 : bC reprF (cnsA (fun ρ s => tabR (bC (nF 4 (runS p__law_closed N__law_closed.length)) (cnsA (vr 2) (cnsA (vr 7) (cnsA (vr 6) (cnsA (vr 5) nilA)))) ρ s)) nilA) ρ3 s = .ok (.str (dueD e l c ns ro lo).py.shown) s := by
      show (R.bind (R.bind (tabR (bC (nF 4 (runS p__law_closed N__law_closed.length)) (cnsA (vr 2) (cnsA (vr 7) (cnsA (vr 6) (cnsA (vr 5) nilA)))) ρ3 s)) fun x s => (nilA ρ3 s).bind fun xs s => R.ok (x :: xs) s) reprF : R D) = _
      rw [cl3, tabR_eq o hr hl hn hv]
      exact rp s
    have r2 : bC reprF (cnsA (vr 3) nilA) ρ3 s = .ok (.str (dueD e l c ns ro lo).py.shown) s := by
      rw [h3]
      exact rp s
    unfold tst b2
    rw [r1]
    show (R.bind (R.bind (bC reprF (cnsA (vr 3) nilA) ρ3 s) fun y s => strF true (.str (dueD e l c ns ro lo).py.shown) y s) bl' : R Bool) = _
    rw [r2]
    show (R.bind (strF true (.str (dueD e l c ns ro lo).py.shown) (.str (dueD e l c ns ro lo).py.shown) s) bl' : R Bool) = _
    rw [ne_str]
    rfl
  have f1 : ifS (tst (b2 (strF true) (bC reprF (cnsA (fun ρ s => tabR (bC (nF 4 (runS p__law_closed N__law_closed.length)) (cnsA (vr 2) (cnsA (vr 7) (cnsA (vr 6) (cnsA (vr 5) nilA)))) ρ s)) nilA)) (bC reprF (cnsA (vr 3) nilA)))) (retS (kst (.bl false))) nxS ρ3 s = .ok (.nx ρ3) s := by
    unfold ifS
    rw [all3, t1]
    rfl
  rw [← h3, seq_nx f1]
  by_cases hb : (pairsL e l).any (badP c ns ro lo) = true
  · have t2 : tst (b2 eqF (vr 3) (mkL (litL (cnsA (kst .non) nilA)))) ρ3 s = .ok true s := by
      rw [h3]
      unfold dueD
      rw [if_pos hb]
      rfl
    have f2 : ifS (tst (b2 eqF (vr 3) (mkL (litL (cnsA (kst .non) nilA))))) (retS (kst (.bl true))) nxS ρ3 s = .ok (.rt (.bl true)) s := by
      unfold ifS
      rw [all3, t2]
      rfl
    unfold seqS
    rw [f2]
    rfl
  · have hb' : (pairsL e l).any (badP c ns ro lo) = false := Bool.eq_false_iff.mpr hb
    have oL := lessW_ok o hb'
    have hd : dueD e l c ns ro lo = tabDD e l (lessW c ns ro lo) := if_neg hb
    have t2 : tst (b2 eqF (vr 3) (mkL (litL (cnsA (kst .non) nilA)))) ρ3 s = .ok false s := by
      have e1 : eqF (tabDD e l (lessW c ns ro lo)) (.lst [.non]) s = .ok (.bl false) s := by
        obtain ⟨p1, p2⟩ := py_tab e l (lessW c ns ro lo)
        have ok : eqOk (tabDD e l (lessW c ns ro lo)) (.lst [.non]) = true := by
          unfold eqOk
          rw [p1, p2, (fine_way oL).shaped (by decide)]
          rfl
        unfold eqF
        rw [if_pos ok, p1]
        rfl
      rw [h3]
      unfold tst b2
      show (R.bind (eqF (dueD e l c ns ro lo) (.lst [.non]) s) bl' : R Bool) = _
      rw [hd, e1]
      rfl
    have f2 : ifS (tst (b2 eqF (vr 3) (mkL (litL (cnsA (kst .non) nilA))))) (retS (kst (.bl true))) nxS ρ3 s = .ok (.nx ρ3) s := by
      unfold ifS
      rw [all3, t2]
      rfl
    rw [seq_nx f2]
    obtain ⟨ρ4, h4⟩ : ∃ ρ4 : Slots, ρ4 = rK m e l k c (.fz (dueD e l c ns ro lo)) (.fz (wayD e l k (lessW c ns ro lo))) (.fz (oD lo)) (.fz (oD ro)) (.fz (.lst (intsD ns))) .no := ⟨_, rfl⟩
    have f4 : setF 4 (bC (nF 4 (runS p__law_closed N__law_closed.length)) (cnsA (vr 2) (cnsA (vr 7) (cnsA (vr 6) (cnsA (vr 5) nilA))))) ρ3 s = .ok (.nx ρ4) s := by
      unfold setF
      rw [cl3, closed_eq o hr hl hn hv, if_neg hb, h3, h4]
      rfl
    rw [seq_nx f4]
    have all4 : allS ρ4 = ρ4 := by rw [h4]; rfl
    have cl4 : bC (nF 4 (runS p__law_closed N__law_closed.length)) (cnsA (vr 4) (cnsA (vr 7) (cnsA (vr 6) (cnsA (vr 5) nilA)))) ρ4 s = .ok (wayD e l k (lessW c ns ro lo)) s := by
      have : bC (nF 4 (runS p__law_closed N__law_closed.length)) (cnsA (vr 4) (cnsA (vr 7) (cnsA (vr 6) (cnsA (vr 5) nilA)))) ρ4 s = runS p__law_closed N__law_closed.length [wayD e l k (lessW c ns ro lo), .lst (intsD ns), oD ro, oD lo] s := by
        rw [h4]
        show nF 4 (runS p__law_closed N__law_closed.length) [wayD e l k (lessW c ns ro lo), .lst (intsD ns), oD ro, oD lo] s = _
        unfold nF
        rw [if_pos (by rfl)]
      rw [this, closed_eq oL hr hl hn hv, if_neg (by rw [bad_twice hb']; exact Bool.false_ne_true), lessW_twice]
    have g1 : b2 (fun x y s => tell (P_eqw false) [x, y] s) (bC (nF 4 (runS p__law_closed N__law_closed.length)) (cnsA (vr 4) (cnsA (vr 7) (cnsA (vr 6) (cnsA (vr 5) nilA))))) (vr 4) ρ4 s = .ok (.bl true) s := by
      unfold b2
      rw [cl4, h4]
      show tell (P_eqw false) [wayD e l k (lessW c ns ro lo), wayD e l k (lessW c ns ro lo)] s = _
      rw [eqw_eq oL oL, decide_eq_true rfl, decide_eq_true rfl]
      rfl
    have g2 : b2 eqF (mkL (litL (cnsA (b1 (fldF 0 0) (vr 4)) (cnsA (b1 (fldF 0 1) (vr 4)) (cnsA (b1 (fldF 0 2) (vr 4)) nilA))))) (bC listF (cnsA (slX (vr 1) noO (soO (kst (.int 3)))) nilA)) ρ4 s = .ok (.bl true) s := by
      have l1 : mkL (litL (cnsA (b1 (fldF 0 0) (vr 4)) (cnsA (b1 (fldF 0 1) (vr 4)) (cnsA (b1 (fldF 0 2) (vr 4)) nilA)))) ρ4 s = .ok (.lst (intsD [(e : Int), (l : Int), (k : Int)])) s := by
        rw [h4]
        rfl
      have l2 : bC listF (cnsA (slX (vr 1) noO (soO (kst (.int 3)))) nilA) ρ4 s = .ok (.lst (intsD [(e : Int), (l : Int), (k : Int)])) s := by
        have z : slX (vr 1) noO (soO (kst (.int 3))) ρ4 s = slF (netDD e l k c) none (some 3) s := by
          rw [h4]
          rfl
        unfold bC cnsA
        rw [z, net_eq]
        rfl
      unfold b2
      rw [l1]
      show (R.bind (bC listF (cnsA (slX (vr 1) noO (soO (kst (.int 3)))) nilA) ρ4 s) fun y s => eqF (.lst (intsD [(e : Int), (l : Int), (k : Int)])) y s : R D) = _
      rw [l2]
      exact eq_same _ s
    unfold retS
    rw [all4, dnd_tt g1 g2]
    rfl
theorem closing_right_true (o : OkW e l k c) (hb : b ≤ 50000) : Al (fun d s => d = .bl true ∧ ∃ b', s = ms m a q b' ∧ b' ≤ b + 9) (runS p__law_closing_right N__law_closing_right.length [.adr m, netDD e l k c, wayD e l k c] (ms m a q b)) := by
  have e0 : st0 N__law_closing_right.length [.adr m, netDD e l k c, wayD e l k c] = rK m e l k c .no .no .no .no .no .no := rfl
  unfold runS
  rw [e0]
  refine Al.bind (P := fun f s => f = .rt (.bl true) ∧ ∃ b', s = ms m a q b' ∧ b' ≤ b + 9) ?_ fun f s ⟨e1, e2⟩ => by
    subst e1
    exact .ok ⟨rfl, e2⟩
  unfold p__law_closing_right
  refine al_seq (P1 := fun ρ' s => ∃ (ns : List Int) (b' : Nat), ns.length ≤ 4 ∧ (∀ x ∈ ns, 0 ≤ x ∧ x < (k : Int)) ∧ ρ' = rK m e l k c .no .no .no .no (.fz (.lst (intsD ns))) .no ∧ s = ms m a q b' ∧ b' ≤ b + 5) (st_spots o hb) ?_
  rintro ρ1 s1 ⟨ns, b1, hn, hv, rfl, rfl, hb1⟩
  refine al_seq (P1 := fun ρ' s => ∃ (ro lo : Option Nat) (b' : Nat), (∀ i, ro = some i → i < e) ∧ (∀ j, lo = some j → j < l) ∧ ρ' = rK m e l k c .no .no (.fz (oD lo)) (.fz (oD ro)) (.fz (.lst (intsD ns))) .no ∧ s = ms m a q b' ∧ b' ≤ b1 + 4) (st_pair o (by omega)) ?_
  rintro ρ2 s2 ⟨ro, lo, b2, hr, hl, rfl, rfl, hb2⟩
  rw [st_rest o hr hl hn hv]
  exact .ok ⟨rfl, b2, rfl, by omega⟩
end
end W2

/-! PwW: _law_names_right. -/
namespace W2
open PySem PySem.Spec PyProof.Rows L2 Pg Pf LamX Pp Tab Rul
abbrev s__law_names_right : Stmt := top 33
abbrev N__law_names_right : List Str := ["_law_m", "_law_net_here", "_law_road", "_law_k", "_law_n"]
theorem sc__law_names_right : FnScope N__law_names_right ["_law_m", "_law_net_here", "_law_road"] (defScope s__law_names_right) := ⟨rfl, rfl, rfl, by decide +kernel, rfl, by decide +kernel, by decide +kernel⟩
noncomputable def p__law_names_right : Slots → S → R Fl :=
  (seqS (asgS (bC tupF (cnsA (bC F_draw (cnsA (vr 0) (cnsA (b2 ixF (vr 1) (kst (.int 0))) nilA))) (cnsA (bC F_draw (cnsA (vr 0) (cnsA (b2 ixF (vr 1) (kst (.int 1))) nilA))) nilA))) (gT 2 (gsC (gN 4) (gsC (gN 3) gs0))))
    (seqS (ifS (tst (b2 neqF (mkL (litL (cnsA (b2 (fun x y s => tell (P_eqw false) [x, y] s) (starF 0 4 0 0 0 gN0 (runS p_Way_closing N_Way_closing.length) (vr 2) nilA nilA) (vr 2)) (cnsA (b2 (fun x y s => tell (P_eqw false) [x, y] s) (starF 0 4 0 1 0 gR (runS p_Way_closing N_Way_closing.length) (vr 2) nilA (cnsA (vr 4) nilA)) (vr 2)) (cnsA (b2 (fun x y s => tell (P_eqw false) [x, y] s) (starF 0 4 0 2 0 gLR (runS p_Way_closing N_Way_closing.length) (vr 2) nilA (cnsA (vr 3) (cnsA (kst .non) nilA))) (vr 2)) nilA))))) (mkL (repL (litL (cnsA (kst (.bl true)) nilA)) (kst (.int 3)))))) (retS (kst (.bl false))) nxS)
    (retS (b2 eqF (fun ρ s => tabR (starF 0 4 0 2 2 gLR (runS p_Way_allowing N_Way_allowing.length) (vr 2) nilA (cnsA (vr 3) (cnsA (vr 4) nilA)) ρ s)) (mkL (litL (cnsA (kst .non) nilA)))))))
section
variable {P : Program} {w : World} {K : PySem.W.Frag} {mg : Str → Option Value} {base : Heap} {Z : Zn} {f c Pt : Addr} {fd : FuncData}
theorem ok__law_names_right (B : Bt mg) (bL : mg "list" = none) (cD : CalG P w K mg base 3 "_law_draw" spDraw) (cLess : CalD P w K mg base Z 2 "_law_less" 4 (runS p__law_less N__law_less.length)) (cClosed : CalD P w K mg base Z 8 "_law_closed" 4 (runS p__law_closed N__law_closed.length)) (cOpened : CalD P w K mg base Z 8 "_law_opened" 4 (runS p__law_opened N__law_opened.length))
    (pRights : Pr P w K mg base (Z.cl 0) "rights" "_rights") (pLefts : Pr P w K mg base (Z.cl 0) "lefts" "_lefts") (pPlaces : Pr P w K mg base (Z.cl 0) "places" "_places") (pTable : Pr P w K mg base (Z.cl 0) "table" "_table")
    (we : We P w K mg base 2 5 (Z.cl 0) (spEqW K (Z.cl 0)) (spLenW K (Z.cl 0))) (nfC : PySem.W.notFirst K (Z.cl 0) (.ref (Z.cl 0)) = true) (tyC : ∀ {H : Hp} {a dx : Addr} {fs : List (Str × L2.V)}, H a = some (.ins (Z.cl 0) dx fs) → TyX K H (.ref a) (.ref (Z.cl 0)))
    (xf : XfC K (Z.cl 12)) (noV : PySem.W.findIn K (.ref (Z.cl 12)) "value" = some none) (gE : mg "InvalidPlaces" = some (.ref (Z.cl 12))) (emE : PySem.W.exmOne K (.ref (Z.cl 12)) (.ref (Z.cl 12)) = some true)
    {gT : Addr} {ocT dVT kVT docT pmT cdvT ctT : Value} {odT anT : Option Addr} {oslT : Array (Option Value)} (mgT : mg "_law_table_of" = some (.ref gT)) (kpT : PySem.W.keepIn K (.ref gT) = true)
    (lkT : K.lookup gT = some ⟨ocT, odT, .func (PySem.W.fnOf "_law_table_of" "_law_table_of" (defArgs s__law_table_of) (defBody s__law_table_of) (defScope s__law_table_of) dVT kVT docT pmT anT cdvT ctT), oslT⟩) (cdT : PySem.W.codeIn K cdvT "_law_table_of" = true)
    (bdT : Binds K (PySem.W.fnOf "_law_table_of" "_law_table_of" (defArgs s__law_table_of) (defBody s__law_table_of) (defScope s__law_table_of) dVT kVT docT pmT anT cdvT ctT) ["_law_call"] [])
    {fC fA DC : Addr} {docC pmC cdC ctC kvA docA pmA cdA ctA : Value} {anC anA : Option Addr} (mClo : MetS P w K mg base Z 7 0 "closing" psC (runS p_Way_closing N_Way_closing.length) fC (fdC .none (.ref DC) docC pmC anC cdC ctC)) (mAllw : MetS P w K mg base Z 7 0 "allowing" psC (runS p_Way_allowing N_Way_allowing.length) fA (fdA .none kvA docA pmA anA cdA ctA))
    (kwR : PySem.W.nsIn K DC "right" = some (some .none)) (kwL : PySem.W.nsIn K DC "left" = some (some .none))
    (F : FunT K mg base Z.T "_law_names_right" s__law_names_right f fd c Pt) : FnG P w K mg base 11 f fd ["_law_m", "_law_net_here", "_law_road"] (spG K Z 3 (runS p__law_names_right N__law_names_right.length)) := by
  have nd := sc__law_names_right.nd
  have naC : ("closing" : Str) ∉ nm 0 := by decide +kernel
  have naA : ("allowing" : Str) ∉ nm 0 := by decide +kernel
  refine fnTd F sc__law_names_right (by decide) fun A outer s H E hr hgd => ?_
  refine ⟨_, (pss_cons (ps_asg (pe_tup (pa_cons (pe_cG cD hr (by decide) hgd rfl (pa_cons (pv 0) (pa_cons (pe_ix ix_seq (pv 1) pe_int (fun _ _ => rfl)) pa_nil))) (pa_cons (pe_cG cD hr (by decide) hgd rfl (pa_cons (pv 0) (pa_cons (pe_ix ix_seq (pv 1) pe_int (fun _ _ => rfl)) pa_nil))) pa_nil))) (pg_tup rfl (pgs_cons (pg_name (i := 4) nd rfl (Or.inr rfl)) (pgs_cons (pg_name (i := 3) nd rfl (Or.inr rfl)) pgs_nil))))
    (pss_cons (ps_if (pt_cmpR (op_neD hr.units) (pe_lst (pa_cons (pe_cmpR (op_eqW we hr (by decide)) (pe_star00 mClo (bd_n0 kwR kwL) hr (by decide) passX0 (pv 2)) (pv 2) (nomark _)) (pa_cons (pe_cmpR (op_eqW we hr (by decide)) (pe_star0 mClo (bd_r0 kwR kwL) hr (by decide) passX0 (pv 2) (pk_cons (pv 4) pk_nil)) (pv 2) (nomark _)) (pa_cons (pe_cmpR (op_eqW we hr (by decide)) (pe_star0 mClo bd_lr0 hr (by decide) passX0 (pv 2) (pk_cons (pv 3) (pk_cons pe_non pk_nil))) (pv 2) (nomark _)) pa_nil)))) (pe_op op_rep (pe_lst (pa_cons pe_bl pa_nil)) pe_int) (nomark _)) (pss_one (ps_ret pe_bl)) pss_nil)
    (pss_one (ps_ret (pe_cmpR (op_eqD hr.units) (pe_lamcall (T := Z.T) (TT := TTab (Z.cl 0) (Z.cl 12)) (a := "_law_call") (Ng := N__law_table_of) (k := 8) (t := fun E => tStar (Z.cl 0) "allowing" (spD K Z 4 (runS p_Way_allowing N_Way_allowing.length)) E gLR 0 2 2 (tVar 2) tNil (tCons (tVar 3) (tCons (tVar 4) tNil))) rfl mgT kpT lkT cdT bdT sc__law_table_of rfl (Or.inl rfl) (table_gives xf noV gE emE pTable (hr.mono (by decide))) F.tb rfl F.mem F.uni (hr.mono (by decide)) (lamS_by (by rfl)) rfl (fun _ _ _ _ _ => rfl) (fun A outer s H E f c' hr' => (pe_star0 mAllw ba_lr hr' (by decide) (passes_call (takes_of rfl rfl rfl rfl) (fun _ _ _ _ h => h)) (pv 2) (pk_cons (pv 3) (pk_cons (pv 4) pk_nil))))) (pe_lst (pa_cons pe_non pa_nil)) (nomark _)))))), ?_⟩
  exact (cs_seq (cs_asg (c_tup (c_cons (c_draw (c_cons (c_var 0) (c_cons (c_op c2_ix (c_var 1) (c_c fun _ => .int _)) c_nil))) (c_cons (c_draw (c_cons (c_var 0) (c_cons (c_op c2_ix (c_var 1) (c_c fun _ => .int _)) c_nil))) c_nil))) (cg_tup (cg_cons (cg_name 4) (cg_cons (cg_name 3) cg_nil))))
    (cs_seq (cs_if (c_tT (c_op c2_neD (c_mkL (cl_lit (c_cons (c_op (c2_eqw rfl false nfC tyC) (c_star naC dg_n (c_var 2) c_nil c_nil) (c_var 2)) (c_cons (c_op (c2_eqw rfl false nfC tyC) (c_star naC dg_r (c_var 2) c_nil (c_cons (c_var 4) c_nil)) (c_var 2)) (c_cons (c_op (c2_eqw rfl false nfC tyC) (c_star naC dg_lr (c_var 2) c_nil (c_cons (c_var 3) (c_cons (c_c fun _ => .non) c_nil))) (c_var 2)) c_nil))))) (c_mkL (cl_rep (cl_lit (c_cons (c_c fun _ => .bl _) c_nil)) (c_c fun _ => .int _))))) (cs_ret (c_c fun _ => .bl _)) cs_next)
    (cs_ret (c_op c2_eqD (c_lamT rfl rfl rfl fun E => c_star naA dg_lr (c_var 2) c_nil (c_cons (c_var 3) (c_cons (c_var 4) c_nil))) (c_mkL (cl_lit (c_cons (c_c fun _ => .non) c_nil)))))))
end
end W2

set_option maxHeartbeats 1000000
/-! PwX: _law_names_right is true. -/
namespace W2
open PySem PySem.Spec PyProof.Rows L2 Pg Pf LamX Pp Tab Rul
section
variable {e l k : Nat} {c : Cf} {ro lo : Option Nat} {m a q : Addr} {b : Nat}
theorem keep_none (c : Cf) (i j : Nat) : keepN c [] i j = c i j := List.filter_eq_self.mpr fun _ _ => by simp
theorem less_none (c : Cf) (ro lo : Option Nat) : lessW c [] ro lo = c := by
  funext i j
  unfold lessW
  rw [keep_none]
  split <;> rfl
theorem bad_none (o : OkW e l k c) : (pairsL e l).any (badP c [] ro lo) = false := by
  rw [List.any_eq_false]
  intro p hp hb
  obtain ⟨hi, hj⟩ := mem_pairs.mp (show (p.1, p.2) ∈ pairsL e l from hp)
  unfold badP at hb
  rw [Bool.and_eq_true, decide_eq_true_eq, keep_none] at hb
  exact (o.ok p.1 p.2 hi hj).1 hb.2
/-- closing without places leaves the way -/
theorem closing_none (o : OkW e l k c) (hr : ∀ i, ro = some i → i < e) (hl : ∀ j, lo = some j → j < l) (s : S) : runS p_Way_closing N_Way_closing.length [wayD e l k c, oD ro, oD lo, .tup (intsD [])] s = .ok (wayD e l k c) s := by
  rw [closing_eq (ns := []) o hr hl (by decide) (fun x hx => by cases hx), if_neg (by rw [bad_none o]; exact Bool.false_ne_true), less_none]
def rN (m : Addr) (e l k : Nat) (c : Cf) (x3 x4 : Sl) : Slots := [.fz (.adr m), .fz (netDD e l k c), .fz (wayD e l k c), x3, x4]
theorem st_two (o : OkW e l k c) (hb : b ≤ 60000) : Al (fun f s => ∃ ρ', f = .nx ρ' ∧ ∃ (i j : Nat), i < e ∧ j < l ∧ ρ' = rN m e l k c (.fz (.int (j : Nat))) (.fz (.int (i : Nat))) ∧ s = ms m a q (b + 2))
    (asgS (bC tupF (cnsA (bC F_draw (cnsA (vr 0) (cnsA (b2 ixF (vr 1) (kst (.int 0))) nilA))) (cnsA (bC F_draw (cnsA (vr 0) (cnsA (b2 ixF (vr 1) (kst (.int 1))) nilA))) nilA))) (gT 2 (gsC (gN 4) (gsC (gN 3) gs0))) (rN m e l k c .no .no) (ms m a q b)) := by
  have r1 := o.r1
  have r2 := o.r2
  have l1 := o.l1
  have l2 := o.l2
  have d1 : ∀ s, bC F_draw (cnsA (vr 0) (cnsA (b2 ixF (vr 1) (kst (.int 0))) nilA)) (rN m e l k c .no .no) s = F_draw [.adr m, .int (e : Nat)] s := fun s => by
    refine bC_of ?_
    unfold cnsA
    rw [show b2 ixF (vr 1) (kst (.int 0)) (rN m e l k c .no .no) = fun s => R.ok (.int (e : Nat)) s from funext fun s => net_ix 0 e (fun _ => rfl) _ (fun _ => rfl) s]
    rfl
  have d2 : ∀ s, bC F_draw (cnsA (vr 0) (cnsA (b2 ixF (vr 1) (kst (.int 1))) nilA)) (rN m e l k c .no .no) s = F_draw [.adr m, .int (l : Nat)] s := fun s => by
    refine bC_of ?_
    unfold cnsA
    rw [show b2 ixF (vr 1) (kst (.int 1)) (rN m e l k c .no .no) = fun s => R.ok (.int (l : Nat)) s from funext fun s => net_ix 1 l (fun _ => rfl) _ (fun _ => rfl) s]
    rfl
  unfold asgS
  refine Al.bind (P := fun d s => ∃ (i j : Nat), d = .tup [.int (i : Nat), .int (j : Nat)] ∧ i < e ∧ j < l ∧ s = ms m a q (b + 2)) ?_ fun d s ⟨i, j, e1, e2, e3, e4⟩ => by
    subst e1 e4
    exact .ok ⟨_, rfl, i, j, e2, e3, rfl, rfl⟩
  unfold bC
  refine Al.bind (P := fun d s => ∃ (i j : Nat), d = [.int (i : Nat), .int (j : Nat)] ∧ i < e ∧ j < l ∧ s = ms m a q (b + 2)) ?_ fun d s ⟨i, j, e1, e2, e3, e4⟩ => by
    subst e1 e4
    exact .ok ⟨i, j, rfl, e2, e3, rfl⟩
  show Al _ ((bC F_draw (cnsA (vr 0) (cnsA (b2 ixF (vr 1) (kst (.int 0))) nilA)) (rN m e l k c .no .no) (ms m a q b)).bind fun x s => ((bC F_draw (cnsA (vr 0) (cnsA (b2 ixF (vr 1) (kst (.int 1))) nilA)) (rN m e l k c .no .no) s).bind fun x s => R.ok [x] s).bind fun xs s => R.ok (x :: xs) s)
  rw [d1]
  refine Al.bind (al_draw (by omega) (by omega) (by omega)) fun x s ⟨⟨i, e1, i0, i1⟩, e2⟩ => ?_
  subst e1 e2
  rw [d2]
  refine Al.bind (P := fun d s => ∃ j : Nat, d = [.int (j : Nat)] ∧ j < l ∧ s = ms m a q (b + 2)) ?_ fun d s ⟨j, e1, e3, e4⟩ => by
    subst e1 e4
    refine .ok ⟨i.toNat, j, ?_, by omega, e3, rfl⟩
    rw [show ((i.toNat : Nat) : Int) = i by omega]
  refine Al.bind (al_draw (by omega) (by omega) (by omega)) fun x s ⟨⟨j, e1, j0, j1⟩, e2⟩ => ?_
  subst e1 e2
  refine .ok ⟨j.toNat, ?_, by omega, rfl⟩
  rw [show ((j.toNat : Nat) : Int) = j by omega]
theorem eqw_self (o : OkW e l k c) (s : S) : tell (P_eqw false) [wayD e l k c, wayD e l k c] s = .ok (.bl true) s := by
  rw [eqw_eq o o, decide_eq_true rfl, decide_eq_true rfl]
  rfl
theorem names_rest (o : OkW e l k c) {i j : Nat} (hi : i < e) (hj : j < l) (s : S) :
    (seqS (ifS (tst (b2 neqF (mkL (litL (cnsA (b2 (fun x y s => tell (P_eqw false) [x, y] s) (starF 0 4 0 0 0 gN0 (runS p_Way_closing N_Way_closing.length) (vr 2) nilA nilA) (vr 2)) (cnsA (b2 (fun x y s => tell (P_eqw false) [x, y] s) (starF 0 4 0 1 0 gR (runS p_Way_closing N_Way_closing.length) (vr 2) nilA (cnsA (vr 4) nilA)) (vr 2)) (cnsA (b2 (fun x y s => tell (P_eqw false) [x, y] s) (starF 0 4 0 2 0 gLR (runS p_Way_closing N_Way_closing.length) (vr 2) nilA (cnsA (vr 3) (cnsA (kst .non) nilA))) (vr 2)) nilA))))) (mkL (repL (litL (cnsA (kst (.bl true)) nilA)) (kst (.int 3)))))) (retS (kst (.bl false))) nxS)
    (retS (b2 eqF (fun ρ s => tabR (starF 0 4 0 2 2 gLR (runS p_Way_allowing N_Way_allowing.length) (vr 2) nilA (cnsA (vr 3) (cnsA (vr 4) nilA)) ρ s)) (mkL (litL (cnsA (kst .non) nilA)))))) (rN m e l k c (.fz (.int (j : Nat))) (.fz (.int (i : Nat)))) s = .ok (.rt (.bl true)) s := by
  obtain ⟨ρ, hρ⟩ : ∃ ρ, ρ = rN m e l k c (.fz (.int (j : Nat))) (.fz (.int (i : Nat))) := ⟨_, rfl⟩
  have all : allS ρ = ρ := by rw [hρ]; rfl
  have v2 : ∀ s, vr 2 ρ s = .ok (wayD e l k c) s := fun s => by rw [hρ]; rfl
  have way : ∀ {f : Slots → S → R D}, (∀ s, f ρ s = .ok (wayD e l k c) s) → ∀ s, b2 (fun x y s => tell (P_eqw false) [x, y] s) f (vr 2) ρ s = .ok (.bl true) s := fun {f} h s => by
    unfold b2
    rw [h]
    show (R.bind (vr 2 ρ s) fun y s => tell (P_eqw false) [wayD e l k c, y] s : R D) = _
    rw [v2]
    exact eqw_self o s
  have s1 : ∀ s, starF 0 4 0 0 0 gN0 (runS p_Way_closing N_Way_closing.length) (vr 2) nilA nilA ρ s = .ok (wayD e l k c) s := fun s => by
    rw [← closing_none (ro := none) (lo := none) o (fun _ z => by cases z) (fun _ z => by cases z) s, hρ]
    rfl
  have s2 : ∀ s, starF 0 4 0 1 0 gR (runS p_Way_closing N_Way_closing.length) (vr 2) nilA (cnsA (vr 4) nilA) ρ s = .ok (wayD e l k c) s := fun s => by
    rw [← closing_none (ro := some i) (lo := none) o (fun _ z => by cases z; exact hi) (fun _ z => by cases z) s, hρ]
    rfl
  have s3 : ∀ s, starF 0 4 0 2 0 gLR (runS p_Way_closing N_Way_closing.length) (vr 2) nilA (cnsA (vr 3) (cnsA (kst .non) nilA)) ρ s = .ok (wayD e l k c) s := fun s => by
    rw [← closing_none (ro := none) (lo := some j) o (fun _ z => by cases z) (fun _ z => by cases z; exact hj) s, hρ]
    rfl
  have w1 := way s1
  have w2 := way s2
  have w3 := way s3
  have t1 : tst (b2 neqF (mkL (litL (cnsA (b2 (fun x y s => tell (P_eqw false) [x, y] s) (starF 0 4 0 0 0 gN0 (runS p_Way_closing N_Way_closing.length) (vr 2) nilA nilA) (vr 2)) (cnsA (b2 (fun x y s => tell (P_eqw false) [x, y] s) (starF 0 4 0 1 0 gR (runS p_Way_closing N_Way_closing.length) (vr 2) nilA (cnsA (vr 4) nilA)) (vr 2)) (cnsA (b2 (fun x y s => tell (P_eqw false) [x, y] s) (starF 0 4 0 2 0 gLR (runS p_Way_closing N_Way_closing.length) (vr 2) nilA (cnsA (vr 3) (cnsA (kst .non) nilA))) (vr 2)) nilA))))) (mkL (repL (litL (cnsA (kst (.bl true)) nilA)) (kst (.int 3))))) ρ s = .ok false s := by
    generalize (b2 (fun x y s => tell (P_eqw false) [x, y] s) (starF 0 4 0 0 0 gN0 (runS p_Way_closing N_Way_closing.length) (vr 2) nilA nilA) (vr 2)) = f1 at w1 ⊢
    generalize (b2 (fun x y s => tell (P_eqw false) [x, y] s) (starF 0 4 0 1 0 gR (runS p_Way_closing N_Way_closing.length) (vr 2) nilA (cnsA (vr 4) nilA)) (vr 2)) = f2 at w2 ⊢
    generalize (b2 (fun x y s => tell (P_eqw false) [x, y] s) (starF 0 4 0 2 0 gLR (runS p_Way_closing N_Way_closing.length) (vr 2) nilA (cnsA (vr 3) (cnsA (kst .non) nilA))) (vr 2)) = f3 at w3 ⊢
    have a1 : cnsA f1 (cnsA f2 (cnsA f3 nilA)) ρ s = .ok [.bl true, .bl true, .bl true] s := by
      unfold cnsA
      simp only [w1, w2, w3, R.bind, nilA]
    unfold tst b2 mkL litL
    rw [a1]
    rfl
  have f1 : ifS (tst (b2 neqF (mkL (litL (cnsA (b2 (fun x y s => tell (P_eqw false) [x, y] s) (starF 0 4 0 0 0 gN0 (runS p_Way_closing N_Way_closing.length) (vr 2) nilA nilA) (vr 2)) (cnsA (b2 (fun x y s => tell (P_eqw false) [x, y] s) (starF 0 4 0 1 0 gR (runS p_Way_closing N_Way_closing.length) (vr 2) nilA (cnsA (vr 4) nilA)) (vr 2)) (cnsA (b2 (fun x y s => tell (P_eqw false) [x, y] s) (starF 0 4 0 2 0 gLR (runS p_Way_closing N_Way_closing.length) (vr 2) nilA (cnsA (vr 3) (cnsA (kst .non) nilA))) (vr 2)) nilA))))) (mkL (repL (litL (cnsA (kst (.bl true)) nilA)) (kst (.int 3)))))) (retS (kst (.bl false))) nxS ρ s = .ok (.nx ρ) s := by
    unfold ifS
    rw [all, t1]
    rfl
  rw [← hρ, seq_nx f1]
  have g1 : starF 0 4 0 2 2 gLR (runS p_Way_allowing N_Way_allowing.length) (vr 2) nilA (cnsA (vr 3) (cnsA (vr 4) nilA)) ρ s = .ex noPl s := by
    have z := allowing_eq (ns := []) o hi hj (by decide) (fun x hx => by cases hx) s
    rw [if_pos rfl] at z
    rw [← z, hρ]
    rfl
  have g2 : b2 eqF (fun ρ s => tabR (starF 0 4 0 2 2 gLR (runS p_Way_allowing N_Way_allowing.length) (vr 2) nilA (cnsA (vr 3) (cnsA (vr 4) nilA)) ρ s)) (mkL (litL (cnsA (kst .non) nilA))) ρ s = .ok (.bl true) s := by
    unfold b2
    show (R.bind (tabR (starF 0 4 0 2 2 gLR (runS p_Way_allowing N_Way_allowing.length) (vr 2) nilA (cnsA (vr 3) (cnsA (vr 4) nilA)) ρ s)) fun x s => (mkL (litL (cnsA (kst .non) nilA)) ρ s).bind fun y s => eqF x y s : R D) = _
    rw [g1]
    rfl
  unfold retS
  rw [all, g2]
  rfl
theorem names_right_true (o : OkW e l k c) (hb : b ≤ 60000) : Al (fun d s => d = .bl true ∧ s = ms m a q (b + 2)) (runS p__law_names_right N__law_names_right.length [.adr m, netDD e l k c, wayD e l k c] (ms m a q b)) := by
  have e0 : st0 N__law_names_right.length [.adr m, netDD e l k c, wayD e l k c] = rN m e l k c .no .no := rfl
  unfold runS
  rw [e0]
  refine Al.bind (P := fun f s => f = .rt (.bl true) ∧ s = ms m a q (b + 2)) ?_ fun f s ⟨e1, e2⟩ => by
    subst e1
    exact .ok ⟨rfl, e2⟩
  unfold p__law_names_right
  refine al_seq (P1 := fun ρ' s => ∃ (i j : Nat), i < e ∧ j < l ∧ ρ' = rN m e l k c (.fz (.int (j : Nat))) (.fz (.int (i : Nat))) ∧ s = ms m a q (b + 2)) (st_two o hb) ?_
  rintro ρ1 s1 ⟨i, j, hi, hj, rfl, rfl⟩
  rw [names_rest o hi hj]
  exact .ok ⟨rfl, rfl⟩
end
end W2

set_option maxHeartbeats 4000000
/-! StA: set(list of ints). -/
namespace StA
open PySem PySem.Spec PyProof.Rows L2
/-- the empty set as it is made -/
abbrev nul (w : World) : Obj := { cls := .type "set", dict := none, data := .set #[] 0 (.fresh 0 0 (!w.params.followText "set-order")) }
section
variable {P : Program} {w : World} {A : Around} {E : Value → Shared → Prop} {z : Shared}
theorem set_of_list {q : Addr} {xs : Array Value} (ks : List Int) {Q : Value → Shared → Prop} (hA : A.handled = none) (isl : z.heap.IsList q xs) (ia : IntsAre xs.toList ks) (few : ks.length + 1 < scanBound)
    (fin : ∀ (g : Heap) (tk c : Nat), SetR w g z.heap.objs.size (fun j => decide (j ∈ ks)) c → c ≤ ks.length → (∀ b o, z.heap.get? b = some o → g.get? b = some o) → Q (.ref z.heap.objs.size) { z with heap := g, toks := tk }) :
    wpAny (model P w) A (call (.type "set") [.ref q]) Q E z := by
  have sz : xs.size = ks.length := by
    rw [← Array.length_toList]
    exact IntsAre.length ia
  obtain ⟨mc, mt, mro⟩ := F.called_set.mro
  have made := F.called_set.made; have hsub := F.called_set.sub
  refine wpAny_call <| codeAny_of_tree <| show wpAny _ _ (callAny (.type "set") _) _ _ _ from ?_
  refine wpAny_pure (.intro (Code.quiet_builtin _ (by decide +kernel)) ?_)
  refine codeAny_builtin F.entry_type_call ?_
  rw [Around.under_plain (by exact weight_type_call_type "set" [.ref q] []) rfl]
  have nty := F.called_set.notType; have cc := F.called_set.canCreate
  have tc := F.typeCall_set_1 (.ref q)
  repeat (any_goals (first | assumption | wp_step))
  refine codeAny_mono (code_set_led1 (.ref q) (E := E) (Q₁ := fun x y => x = .ref z.heap.objs.size ∧ y = { z with heap := z.heap.push (nul w) }) ⟨rfl, rfl⟩) fun r y hy => ?_
  cases r with
  | error _ => exact hy
  | ok f =>
    cases f with
    | ret x =>
      obtain ⟨rfl, rfl⟩ := hy
      have at0 : (z.heap.push (nul w)).get? z.heap.objs.size = some (nul w) := Heap.get?_push_size _ rfl
      have ty0 : Shared.TypeIs { z with heap := z.heap.push (nul w) } (.ref z.heap.objs.size) "set" := ⟨_, at0, rfl⟩
      have il := F.called_set.init.lookup; have ib := F.called_set.init.bind (.ref z.heap.objs.size)
      repeat (any_goals (first | assumption | wp_step))
      refine codeAny_mono (codeAny_call_builtin (R := wants (fun r y => r = .none ∧ ∃ g tk c, y = { z with heap := g, toks := tk } ∧ SetR w g z.heap.objs.size (fun j => decide (j ∈ ks)) c ∧ c ≤ ks.length ∧ (∀ b o, z.heap.get? b = some o → g.get? b = some o)) E)
        F.called_set.init.plain F.entry_set_init (check_set_init_1 ty0 ?_)) fun r y hy => ?_
      · obtain ⟨⟨oc, od, oa, os⟩, lo, c1, nn, c2⟩ := isl
        simp only at c1 c2
        subst c1 c2
        have lo2 : (z.heap.push (nul w)).get? q = some { cls := .type "list", dict := od, data := .seq xs nn, slots := os } := Heap.get?_push_of_some _ lo
        have s1 := F.sub_list_set; have s2 := F.sub_list_frozenset
        have nd : (Value.type "list" == Value.type "dict") = false := by decide
        have isl2 : (z.heap.push (nul w)).IsList q xs := ⟨_, lo2, rfl, nn, rfl⟩
        unfold Builtin.«set.__init__» noKeywords Builtin.Frozenset.updateFrom
        generalize gI : pyIter = PI
        wp_walk
        subst gI
        refine wpAny_pyIter_list isl2 <| wpAny_bind <| wpAny_runValue ?_
        have ql : q < z.heap.objs.size := Heap.lt_size lo
        have h3 : A.in1.in1.in1.handled = none := by simp [hA]
        have n1 : q ≠ (z.heap.push (nul w)).objs.size := by
          rw [Heap.size_push]
          exact Nat.ne_of_lt (.step ql)
        have n2 : z.heap.objs.size ∉ [(z.heap.push (nul w)).objs.size, q] := by
          rw [Heap.size_push]
          simp only [List.mem_cons, List.not_mem_nil, or_false, not_or]
          exact ⟨Nat.ne_of_lt (Nat.lt_succ_self _), (Nat.ne_of_lt ql).symm⟩
        have vals : ∀ (i : Nat) (v : Value), xs[i]? = some v → ∃ k t, ks[i]? = some k ∧ v = .int k t := fun i v hv => by
          have hi : i < ks.length := by
            rw [← sz]
            exact (Array.getElem?_eq_some_iff.mp hv).1
          obtain ⟨t, e⟩ := IntsAre.int_at ia i v (by rw [Array.getElem?_toList]; exact hv)
          refine ⟨ks[i], t, List.getElem?_eq_getElem hi, e.trans ?_⟩
          rw [List.getD_eq_getElem?_getD, List.getElem?_eq_getElem hi]
          rfl
        refine set_update_ints ((Walks.list h3 _ q n1 xs).toS) _ n2 ks sz few vals _ 0 _ rfl (Nat.zero_le _) ⟨⟨_, Heap.get?_push_size _ rfl, rfl, rfl⟩, isl2.push _⟩ ?new ?old
        case new => exact ⟨0, Nat.le_refl 0, setR_new_at (Heap.get?_push_of_some _ at0)⟩
        case old =>
          intro y c mv hc hR
          obtain ⟨g, ge, dr, tk, os2⟩ := y
          have e1 : ge = z.gens := mv.gens
          have e2 : dr = z.drawn := mv.drawn
          have e3 : os2 = z.os := mv.os
          subst e1 e2 e3
          refine wpAny_pure <| show wpAny _ _ (ret Value.none) _ _ _ from ?_
          refine wpAny_pure ⟨rfl, g, tk, c, rfl, hR, by rw [← sz]; exact hc, fun b o e => ?_⟩
          have bl : b < z.heap.objs.size := Heap.lt_size e
          refine mv.heap b o ?_ (Heap.get?_push_of_some _ (Heap.get?_push_of_some _ e))
          rw [Heap.size_push]
          simp only [List.mem_cons, List.not_mem_nil, or_false, not_or]
          exact ⟨Nat.ne_of_lt bl, Nat.ne_of_lt (.step bl)⟩
      · cases r with
        | error _ => exact hy
        | ok f =>
          cases f with
          | ret r =>
            obtain ⟨rfl, g, tk, c, rfl, h1, h2, h3⟩ := hy
            repeat (any_goals (first | assumption | wp_step))
            exact fin _ _ _ h1 h2 h3
          | _ => exact hy.elim
    | _ => exact hy.elim
end
/-- set(xs) of a list of ints -/
def rSetLI (K : PySem.W.Frag) (w : World) : List V → Hp → VK → Prop := fun vs H Q => ∃ (a : Addr) (ns : List Int), vs = [.ref a] ∧ SqL K H a (ns.map V.int) ∧ ns.length ≤ 1000 ∧ ∀ p c, H p = none → c ≤ ns.length → Q (.ref p) (upd H p (SetO w p (fun j => decide (j ∈ ns)) c))
theorem cr_setLI {X : Cx} (hc : X.calm = true) : CallR X (.type "set") (rSetLI X.K X.w) := by
  intro pins s σ H vs us Q I r h
  obtain ⟨a, ns, rfl, hS, hl, q⟩ := h
  obtain ⟨u, rfl, ru⟩ := vals1 r
  obtain rfl : u = Value.ref a := ru
  obtain ⟨its, rv, pt, hz⟩ := I.list hS
  refine set_of_list ns (I.ok.hd hc) pt.isList (ints_of_vals rv) (by unfold scanBound; omega) fun g tk c R hcn kp => ?_
  exact ⟨.ref _, _, I.laid (t' := tk) kp (Nat.le_refl _) (setO_new R), rfl, q _ c (I.hok.fresh (Nat.le_refl _)) hcn⟩
end StA

set_option maxHeartbeats 4000000
/-! StB: x[::-1] of a tuple. -/
namespace StB
open PySem PySem.Spec PyProof.Rows L2 HT
theorem back_pick (xs : List Value) : ((List.range xs.length).filterMap fun (k : Nat) => xs.toArray[((xs.length : Int) - 1 + (k : Int) * (-1)).toNat]?) = xs.reverse := by
  have e : ∀ k ∈ List.range xs.length, xs.toArray[((xs.length : Int) - 1 + (k : Int) * (-1)).toNat]? = some (xs.reverse.getD k Value.none) := fun k hk => by
    have hk := List.mem_range.mp hk
    have i1 : ((xs.length : Int) - 1 + (k : Int) * (-1)).toNat = xs.length - 1 - k := by omega
    rw [i1, List.getElem?_toArray, List.getD_eq_getElem?_getD, List.getElem?_reverse hk, List.getElem?_eq_getElem (show xs.length - 1 - k < xs.length by omega)]
    rfl
  have m : ∀ l : List Nat, (∀ k ∈ l, xs.toArray[((xs.length : Int) - 1 + (k : Int) * (-1)).toNat]? = some (xs.reverse.getD k Value.none)) → (l.filterMap fun (k : Nat) => xs.toArray[((xs.length : Int) - 1 + (k : Int) * (-1)).toNat]?) = l.map fun k => xs.reverse.getD k Value.none := by
    intro l
    induction l with
    | nil => exact fun _ => rfl
    | cons k l ih =>
      intro h
      rw [List.filterMap_cons, h k (List.mem_cons_self ..), ih fun j hj => h j (List.mem_cons_of_mem _ hj)]
      rfl
  rw [m _ e]
  refine List.ext_getElem (by rw [List.length_map, List.length_range, List.length_reverse]) fun i h1 h2 => ?_
  rw [List.getElem_map, List.getElem_range, List.getD_eq_getElem?_getD, List.getElem?_eq_getElem h2]
  rfl
section
variable {prog : Program} {w : World} {A : Around} {E : Value → Shared → Prop} {s : Shared}
theorem applied_back {sl : Addr} {vs : Value} {n : Nat} {Q : Int × Int × Nat → Shared → Prop} (hs : s.heap.IsSliceOf sl .none .none vs) (ps : IsPart vs (some (-1))) (h : Q ((n : Int) - 1, -1, n) s) :
    wpAny (model prog w) A (Builtin.Slice.sliceApplied (.ref sl) (pure (n : Int))) Q E s := by
  obtain ⟨os, h1, h2, h3⟩ := id hs
  unfold Builtin.Slice.sliceApplied Builtin.Slice.sliceFields
  refine wpAny_bind (wpAny_bind (wpAny_field h1 h3 (x := .none) rfl (wpAny_bind ?_)))
  refine wpAny_field h1 h3 (x := .none) rfl (wpAny_bind ?_)
  refine wpAny_field h1 h3 (x := vs) rfl (wpAny_pure ?_)
  refine wpAny_bind (slicePart_ ps ?_)
  show wpAny _ _ (if ((-1 : Int) == 0) = true then _ else _) _ _ s
  rw [if_neg (by decide)]
  refine wpAny_bind (slicePart_none (wpAny_bind (slicePart_none ?_)))
  refine wpAny_bind (wpAny_pure ?_)
  have e : Builtin.Slice.sliceAdjust none none (-1) (n : Int) = ((n : Int) - 1, -1) := rfl
  have e2 : Builtin.Slice.slicePlaces ((n : Int) - 1) (-1) (-1) = n := by
    show (if (-1 : Int) > 0 then _ else (if ((n : Int) - 1) > -1 then (((n : Int) - 1) - (-1) - 1) / (- -1) + 1 else 0)).toNat = n
    rw [if_neg (by decide)]
    rw [show (- -1 : Int) = 1 from rfl, Int.ediv_one]
    split <;> omega
  show wpAny _ _ (match Builtin.Slice.sliceAdjust none none (-1) (n : Int) with | (lo, hi) => pure (lo, (-1 : Int), Builtin.Slice.slicePlaces lo hi (-1))) _ _ s
  rw [e]
  show wpAny _ _ (pure ((n : Int) - 1, (-1 : Int), Builtin.Slice.slicePlaces ((n : Int) - 1) (-1) (-1))) _ _ s
  rw [e2]
  exact wpAny_pure h
theorem item_back {t sl : Addr} {xs : List Value} {vs : Value} {Q : Value → Shared → Prop} (ht : IsTup s.heap t xs.toArray) (hs : s.heap.IsSliceOf sl .none .none vs) (ps : IsPart vs (some (-1)))
    (h : Q (.ref s.heap.objs.size) { s with heap := s.heap.push { cls := .type "tuple", data := .seq xs.reverse.toArray } }) (hz : xs.length ≤ sizeLine) : wpAny (model prog w) A (getItem (.ref t) (.ref sl)) Q E s := by
  have ok : sizeOk (.seq xs.reverse.toArray) := by
    show xs.reverse.toArray.size ≤ sizeLine
    rw [List.size_toArray, List.length_reverse]
    exact hz
  obtain ⟨os, h1, h2, h3⟩ := id hs
  have ty : s.TypeIs (.ref sl) "slice" := ⟨os, h1, h2⟩
  unfold getItem
  refine wpAny_holding ?_
  first | refine wpAny_bind (wpAny_pure ?_) | skip
  refine wpAny_bind <| wpAny_sequenceKey ht.typeIs (by decide) <| wpAny_bind ?_
  refine wpAny_callSpecial?_slot (name := Str.ofString "__getitem__") ht.typeIs PyProof.Rows.slot_tuple_getitem ?_
  refine wpAny_call_entry PyProof.Rows.slot_tuple_getitem ht.typeIs entry_tuple_getitem ?_ (args_tuple_getitem _ _)
  show wpAny _ _ (Builtin.Tuple.tupleItemsOf (.ref t) >>= _) _ _ s
  refine wpAny_bind <| tupleItemsOf_ ht <| wpAny_bind <| wpAny_typeOf ty ?_
  rw [if_pos (by decide)]
  refine wpAny_bind (applied_back (n := xs.toArray.size) hs ps ?_)
  have no : ¬ (((((xs.toArray.size : Nat) : Int) - 1) == 0 && (-1 : Int) == 1 && xs.toArray.size == xs.toArray.size) = true) := by simp
  show wpAny _ _ (if ((((xs.toArray.size : Nat) : Int) - 1) == 0 && (-1 : Int) == 1 && xs.toArray.size == xs.toArray.size) = true then _ else _) _ _ s
  rw [if_neg no]
  have e := back_pick xs
  rw [← List.size_toArray] at e
  rw [e]
  first
    | exact wpAny_bind (m := Builtin.Tuple.tupleExact _) (wpAny_newObj_type (wpAny_pure ⟨_, rfl, wpAny_pure h⟩) ok)
    | exact wpAny_bind (m := Builtin.Tuple.tupleExact _) (wpAny_newObj_type (wpAny_bind (wpAny_pure (wpAny_pure ⟨_, rfl, wpAny_pure h⟩))) ok)
    | exact wpAny_bind (wpAny_bind (m := Builtin.Tuple.tupleExact _) (wpAny_newObj_type (wpAny_pure (wpAny_pure ⟨_, rfl, wpAny_pure h⟩)) ok))
    | exact wpAny_bind (wpAny_bind (m := Builtin.Tuple.tupleExact _) (wpAny_newObj_type (wpAny_pure ⟨_, rfl, wpAny_pure h⟩) ok))
end
/-- x[::-1] of a tuple -/
def tBack (K : PySem.W.Frag) (te : TE) : TE := fun σ H Q => te σ H fun x H1 => ∃ a xs, x = .ref a ∧ SqT K H1 a xs ∧ ∀ p, H1 p = none → Q (.ref p) (upd H1 p (.tup xs.reverse))
section
variable {X : Cx}
theorem pe_back {e : Expr} {te : TE} {k : Nat} {p1 p2 p3 pos : Pos} (he : PE X e te) : PE X (.Subscript e (.Slice none none (some (.UnaryOp .USub (.Constant (.int 1) k p1) p2)) p3) pos) (tBack X.K te) := by
  refine ⟨fun pins s σ H Q I h => Subscript_ (thn (he.run pins s σ H _ I h) ?_)⟩
  rintro v s1 ⟨x, H1, I1, r1, a, xs, rfl, hx, q⟩
  cases r1
  have hst : PO X (some (.UnaryOp .USub (.Constant (.int 1) k p1) p2)) (tPart (tUn (rU fun i => .int (-i)) (tC (.int 1)))) := po_some (pe_un un_neg pe_int)
  refine wpAny_Slice (thn (po_none.run pins s1 σ H1 (fun o y => o = none ∧ y = H1) I1 ⟨rfl, rfl⟩) ?_)
  rintro vl s2 ⟨l, H2, I2, pl, rfl, rfl⟩
  refine thn (po_none.run pins s2 σ H2 (fun o y => o = none ∧ y = H2) I2 ⟨rfl, rfl⟩) ?_
  rintro vu s3 ⟨u, H3, I3, pu, rfl, rfl⟩
  refine thn (hst.run pins s3 σ H3 (fun o y => o = some (-1) ∧ y = H3) I3 ⟨1, rfl, -1, rfl, rfl, rfl⟩) ?_
  rintro vs s4 ⟨o, H4, I4, ps, rfl, rfl⟩
  cases pl
  cases pu
  have I5 : Inv X pins σ H4 { s4 with heap := s4.heap.push { cls := .type "slice", data := .fields #[.none, .none, vs] } } := I4.kept (t' := s4.toks) fun b ob q => Heap.get?_push_of_some _ q
  obtain ⟨its, r, ht, hz⟩ := I5.tuple hx
  show wpAny (model X.prog X.w) X.A (subscriptTail e (.Slice none none (some (.UnaryOp .USub (.Constant (.int 1) k p1) p2)) p3) (.ref a) (.ref s4.heap.objs.size)) (EP X pins σ Q) X.xe { s4 with heap := s4.heap.push { cls := .type "slice", data := .fields #[.none, .none, vs] } }
  refine tail_any (ops := [.ref a, .ref s4.heap.objs.size]) ht.typeIs (PyProof.Rows.slot_tuple_getitem.lookup) ?_ (by with_unfolding_all rfl)
  refine item_back ht (Heap.IsSliceOf.new _ .none .none vs) ps ?_ (by rw [← r.length]; exact hz)
  refine ⟨.ref _, _, I5.laid (t' := s4.toks) (o := .tup xs.reverse) (fun b ob q => Heap.get?_push_of_some _ q) (Nat.le_refl _) ?_, rfl, q _ (I5.hok.fresh (Nat.le_refl _))⟩
  exact ⟨by rw [List.length_reverse]; exact hz, _, r.reverse, _, Heap.get?_push_size _ rfl, rfl, 0, rfl⟩
end
end StB

set_option maxHeartbeats 1000000
/-! PpA: sorted(set(..)), sorted(..), reversed, [::-1], pop, a, b = list. -/
namespace Pp
open PySem PySem.Spec PyProof.Rows L2 Pg Pf LamX Rul
/-! ### ascending lists -/
def insS (x : Int) : List Int → List Int
  | [] => [x]
  | y :: ys => if x < y then x :: y :: ys else if x = y then y :: ys else y :: insS x ys
def srtS (ns : List Int) : List Int := ns.foldr insS []
theorem mem_insS {x z : Int} : ∀ {ys : List Int}, z ∈ insS x ys ↔ z = x ∨ z ∈ ys
  | [] => by simp [insS]
  | y :: ys => by
    unfold insS
    split
    · simp
    · split
      · rename_i h
        subst h
        simp
      · simp only [List.mem_cons, mem_insS (ys := ys)]
        constructor
        · rintro (h | h | h) <;> simp [h]
        · rintro (h | h | h) <;> simp [h]
theorem asc_insS {x : Int} : ∀ {ys : List Int}, ys.Pairwise (· < ·) → (insS x ys).Pairwise (· < ·)
  | [], _ => by simp [insS]
  | y :: ys, h => by
    have h' := List.pairwise_cons.mp h
    unfold insS
    split
    · rename_i l
      refine List.pairwise_cons.mpr ⟨fun z hz => ?_, h⟩
      rcases List.mem_cons.mp hz with e | hz
      · rw [e]
        exact l
      · have := h'.1 z hz
        omega
    · split
      · exact h
      · refine List.pairwise_cons.mpr ⟨fun z hz => ?_, asc_insS h'.2⟩
        rcases mem_insS.mp hz with e | hz
        · rw [e]
          omega
        · exact h'.1 z hz
theorem mem_srtS {z : Int} : ∀ {ns : List Int}, z ∈ srtS ns ↔ z ∈ ns
  | [] => by simp [srtS]
  | n :: ns => by
    show z ∈ insS n (srtS ns) ↔ _
    rw [mem_insS, mem_srtS, List.mem_cons]
theorem asc_srtS : ∀ {ns : List Int}, (srtS ns).Pairwise (· < ·)
  | [] => .nil
  | n :: ns => asc_insS (asc_srtS (ns := ns))
/-- two ascending lists with the same members are one -/
theorem asc_one : ∀ {xs ys : List Int}, xs.Pairwise (· < ·) → ys.Pairwise (· < ·) → (∀ z, z ∈ xs ↔ z ∈ ys) → xs = ys
  | [], [], _, _, _ => rfl
  | [], y :: ys, _, _, h => by have := (h y).mpr (List.mem_cons_self ..); cases this
  | x :: xs, [], _, _, h => by have := (h x).mp (List.mem_cons_self ..); cases this
  | x :: xs, y :: ys, hx, hy, h => by
    have hx' := List.pairwise_cons.mp hx
    have hy' := List.pairwise_cons.mp hy
    have e : x = y := by
      have h1 := (h x).mp (List.mem_cons_self ..)
      have h2 := (h y).mpr (List.mem_cons_self ..)
      rcases List.mem_cons.mp h1 with e | h1
      · exact e
      · rcases List.mem_cons.mp h2 with e | h2
        · exact e.symm
        · have := hx'.1 y h2
          have := hy'.1 x h1
          omega
    subst e
    rw [asc_one hx'.2 hy'.2 fun z => ?_]
    constructor
    · intro hz
      rcases List.mem_cons.mp ((h z).mp (List.mem_cons_of_mem _ hz)) with e | h'
      · subst e
        have := hx'.1 z hz
        omega
      · exact h'
    · intro hz
      rcases List.mem_cons.mp ((h z).mpr (List.mem_cons_of_mem _ hz)) with e | h'
      · subst e
        have := hy'.1 z hz
        omega
      · exact h'
/-- the ints of data -/
def dInts : List D → Option (List Int)
  | [] => some []
  | .int i :: ds => (dInts ds).map (i :: ·)
  | _ => none
theorem dInts_of {K : PySem.W.Frag} {Z : Zn} {G : Hp} : ∀ {ds : List D} {vs : List V} {ns : List Int}, DvA K Z G vs ds → dInts ds = some ns → vs = ns.map V.int
  | [], _, ns, .nil, e => by
    cases e
    rfl
  | .int i :: ds, _, ns, .cons (.int _) b, e => by
    unfold dInts at e
    cases e1 : dInts ds with
    | none =>
      rw [e1] at e
      cases e
    | some ms =>
      rw [e1] at e
      cases e
      rw [List.map_cons, dInts_of b e1]
  | .non :: _, _, _, _, e | .bl _ :: _, _, _, _, e | .str _ :: _, _, _, _, e | .tup _ :: _, _, _, _, e | .lst _ :: _, _, _, _, e | .obj _ _ :: _, _, _, _, e | .adr _ :: _, _, _, _, e | .emp :: _, _, _, _, e | .rls _ :: _, _, _, _, e => by cases e
theorem dInts_map : ∀ ns : List Int, dInts (ns.map D.int) = some ns
  | [] => rfl
  | n :: ns => by
    show (dInts (ns.map D.int)).map (n :: ·) = _
    rw [dInts_map ns]
    rfl
section
variable {K : PySem.W.Frag} {Z : Zn} {E : XK} {te : TE} {f : Slots → S → R D}
def lsD : D → Option (List D)
  | .lst ds => some ds
  | .rls ds => some ds
  | _ => none
theorem lsD_of {V H : Hp} {s : S} {v : L2.V} {d : D} {ds : List D} (w : Wd Z.T V H s) (h : Dv K Z V v d) (e : lsD d = some ds) : ∃ a vs, v = .ref a ∧ SqL K H a vs ∧ DvA K Z V vs ds := by
  cases h with
  | lst h hs =>
    cases e
    exact ⟨_, _, rfl, SqL.of (w.sv _ _ h), hs⟩
  | rls h hs =>
    cases e
    exact ⟨_, _, rfl, Evl.ex_l w.sv h, hs⟩
  | _ => cases e
/-- sorted(set(xs)) -/
def sSetF (d : D) (s : S) : R D := match (lsD d).bind dInts with
  | some ns => if ns.length < 64 then .ok (.lst ((srtS ns).map D.int)) s else .un
  | none => .un
theorem c_sortset {w0 : World} (h : Cmp K Z E te f) : Cmp K Z E (tCB (rSortedSet w0) (tCons (tCB (StA.rSetLI K w0) (tCons te tNil)) tNil)) (b1 sSetF f) := fun V H σ ρ s Q w p a =>
  h V H σ ρ s _ w p (Ans.bind a fun d s1 v V1 H1 n1 w1 r1 a1 => by
    unfold sSetF at a1
    cases e1 : lsD d with
    | none =>
      rw [e1] at a1
      exact a1.elim
    | some ds =>
      cases e2 : dInts ds with
      | none =>
        rw [e1] at a1
        replace a1 : Ans K Z E (Dv K Z) (match dInts ds with | some ns => if ns.length < 64 then .ok (.lst ((srtS ns).map D.int)) s1 else .un | none => .un) s1 V1 H1 Q := a1
        rw [e2] at a1
        exact a1.elim
      | some ns =>
        rw [e1] at a1
        replace a1 : Ans K Z E (Dv K Z) (match dInts ds with | some ns => if ns.length < 64 then .ok (.lst ((srtS ns).map D.int)) s1 else .un | none => .un) s1 V1 H1 Q := a1
        rw [e2] at a1
        replace a1 : Ans K Z E (Dv K Z) (if ns.length < 64 then .ok (.lst ((srtS ns).map D.int)) s1 else .un) s1 V1 H1 Q := a1
        by_cases l : ns.length < 64
        · rw [if_pos l] at a1
          obtain ⟨b, vs, rfl, hS, hs⟩ := lsD_of w1 r1 e1
          obtain rfl := dInts_of hs e2
          refine ⟨b, ns, rfl, hS, by omega, fun q c hq hc => ?_⟩
          refine ⟨q, _, c, rfl, upd_same, by omega, fun ms t h1 h2 h3 ht => ?_⟩
          have em : ms = srtS ns := asc_one h1 asc_srtS fun z => by rw [h2, mem_srtS, decide_eq_true_eq]
          subst em
          exact new_lst (w1.up hq) (DvA.ints _) (Ans.later (Nx.up hq) a1) t ht
        · rw [if_neg l] at a1
          exact a1.elim)
/-- sorted(xs) of different ints -/
def sLstF (d : D) (s : S) : R D := match (lsD d).bind dInts with
  | some ns => if ns.length < 64 ∧ ns.Nodup then .ok (.lst ((srtS ns).map D.int)) s else .un
  | none => .un
theorem c_sortL (h : Cmp K Z E te f) : Cmp K Z E (tCB (rSorted K) (tCons te tNil)) (b1 sLstF f) := fun V H σ ρ s Q w p a =>
  h V H σ ρ s _ w p (Ans.bind a fun d s1 v V1 H1 n1 w1 r1 a1 => by
    unfold sLstF at a1
    cases e1 : lsD d with
    | none =>
      rw [e1] at a1
      exact a1.elim
    | some ds =>
      cases e2 : dInts ds with
      | none =>
        rw [e1] at a1
        replace a1 : Ans K Z E (Dv K Z) (match dInts ds with | some ns => if ns.length < 64 ∧ ns.Nodup then .ok (.lst ((srtS ns).map D.int)) s1 else .un | none => .un) s1 V1 H1 Q := a1
        rw [e2] at a1
        exact a1.elim
      | some ns =>
        rw [e1] at a1
        replace a1 : Ans K Z E (Dv K Z) (match dInts ds with | some ns => if ns.length < 64 ∧ ns.Nodup then .ok (.lst ((srtS ns).map D.int)) s1 else .un | none => .un) s1 V1 H1 Q := a1
        rw [e2] at a1
        replace a1 : Ans K Z E (Dv K Z) (if ns.length < 64 ∧ ns.Nodup then .ok (.lst ((srtS ns).map D.int)) s1 else .un) s1 V1 H1 Q := a1
        by_cases l : ns.length < 64 ∧ ns.Nodup
        · rw [if_pos l] at a1
          obtain ⟨b, vs, rfl, hS, hs⟩ := lsD_of w1 r1 e1
          obtain rfl := dInts_of hs e2
          refine ⟨b, ns, rfl, hS, l.1, fun ms t h1 h2 ht => ?_⟩
          have nd : ms.Nodup := h1.nodup_iff.mpr l.2
          have em : ms = srtS ns := asc_one ((h2.and nd).imp fun ⟨p1, p2⟩ => by omega) asc_srtS fun z => by rw [h1.mem_iff, mem_srtS]
          subst em
          exact new_lst w1 (DvA.ints _) a1 t ht
        · rw [if_neg l] at a1
          exact a1.elim)
/-- x[::-1] of a tuple -/
def backF (d : D) (s : S) : R D := match d with
  | .tup ds => .ok (.tup ds.reverse) s
  | _ => .un
theorem c_back (h : Cmp K Z E te f) : Cmp K Z E (StB.tBack K te) (b1 backF f) := fun V H σ ρ s Q w p a =>
  h V H σ ρ s _ w p (Ans.bind a fun d s1 v V1 H1 n1 w1 r1 a1 => by
    cases r1 with
    | @tup b vs ds hx hs => exact ⟨b, vs, rfl, Evl.ex_t w1.sv hx, new_tup w1 hs.rev a1⟩
    | _ => exact a1.elim)
/-- reversed(x), walked -/
def revF (d : D) (s : S) : R (List D) := match d with
  | .tup ds => .ok ds.reverse s
  | .lst ds => .ok ds.reverse s
  | .rls ds => .ok ds.reverse s
  | _ => .un
def revI (f : Slots → S → R D) (ρ : Slots) (s : S) : R (List D) := (f ρ s).bind revF
theorem rev_at {α : Type} {xs : List α} {i : Nat} (l : i < xs.length) : xs.reverse[i]? = xs[xs.length - 1 - i]? := List.getElem?_reverse l
theorem itR_revT {V : Hp} {a : Addr} {vs : List L2.V} {ds : List D} (h : SqT K V a vs) (hs : DvA K Z V vs ds) : ItR K Z V (RT.ItvT K a vs.length) ds.reverse := by
  have st : ∀ {V1 H1 : Hp}, Same V V1 → Same V1 H1 → SqT K H1 a vs := fun e1 e2 => Evl.ex_t (e1.trans e2) h
  have ln := hs.len
  refine ⟨fun i V1 H1 e1 e2 l => ?_, fun V1 H1 e1 e2 => by rw [List.length_reverse, ← ln]; exact Nat.le_refl _, fun i V1 H1 x H2 e1 e2 l y => ?_⟩
  · rw [List.length_reverse] at l
    have l2 : i < vs.length := by omega
    exact ⟨l2, vs, vs[vs.length - 1 - i]'(by omega), st e1 e2, List.getElem?_eq_getElem _⟩
  · rw [List.length_reverse] at l
    obtain ⟨rfl, q⟩ := y
    obtain ⟨d, e, r⟩ := hs.at' (q vs (st e1 e2))
    exact ⟨d, by rw [rev_at l, ← ln]; exact e, .inl ⟨rfl, Dv.mono e1 _ _ r⟩⟩
theorem itR_revL {V : Hp} {a : Addr} {vs : List L2.V} {ds : List D} (h : SqL K V a vs) (hs : DvA K Z V vs ds) : ItR K Z V (Itv K a vs.length) ds.reverse := by
  have st : ∀ {V1 H1 : Hp}, Same V V1 → Same V1 H1 → SqL K H1 a vs := fun e1 e2 => Evl.ex_l (e1.trans e2) h
  have ln := hs.len
  refine ⟨fun i V1 H1 e1 e2 l => ?_, fun V1 H1 e1 e2 => by rw [List.length_reverse, ← ln]; exact Nat.le_refl _, fun i V1 H1 x H2 e1 e2 l y => ?_⟩
  · rw [List.length_reverse] at l
    have l2 : i < vs.length := by omega
    exact ⟨l2, vs, vs[vs.length - 1 - i]'(by omega), st e1 e2, List.getElem?_eq_getElem _⟩
  · rw [List.length_reverse] at l
    obtain ⟨rfl, q⟩ := y
    obtain ⟨d, e, r⟩ := hs.at' (q vs (st e1 e2))
    exact ⟨d, by rw [rev_at l, ← ln]; exact e, .inl ⟨rfl, Dv.mono e1 _ _ r⟩⟩
theorem ci_rev (h : Cmp K Z E te f) : CmpI K Z E (RT.iRevA K te) (revI f) := fun V H σ ρ s Q w p a =>
  h V H σ ρ s _ w p (Ans.bind a fun d s1 v V1 H1 n1 w1 r1 a1 => by
    cases r1 with
    | @lst b vs ds hx hs => exact ⟨b, vs, rfl, .inl ⟨Evl.ex_l w1.sv (SqL.of hx), Ans.pure w1 (itR_revL (SqL.of hx) hs) a1⟩⟩
    | @rls b vs ds hx hs => exact ⟨b, vs, rfl, .inl ⟨Evl.ex_l w1.sv hx, Ans.pure w1 (itR_revL hx hs) a1⟩⟩
    | @tup b vs ds hx hs => exact ⟨b, vs, rfl, .inr ⟨Evl.ex_t w1.sv hx, Ans.pure w1 (itR_revT hx hs) a1⟩⟩
    | _ => exact a1.elim)
/-- a, b, .. = a list -/
def gTL (n : Nat) (g : List D → Slots → Option Slots) (d : D) (ρ : Slots) : Option Slots := match lsD d with
  | some ds => if ds.length = n then g ds ρ else none
  | none => none
theorem cg_lst {n : Nat} {ts : TGs} {gs : List D → Slots → Option Slots} {is : List Nat} (h : CmpGs ts gs is K Z) : CmpG (gLst K n ts) (gTL n gs) is K Z := fun P V H sv st σ ρ v d Q p r a => by
  have go : ∀ {b : Addr} {vs : List L2.V} {ds : List D}, lsD d = some ds → SqL K V b vs → DvA K Z V vs ds → v = .ref b → gLst K n ts v σ H Q := fun {b vs ds} e hx hs ev => by
    unfold gTL at a
    rw [e] at a
    by_cases l : ds.length = n
    · simp only [if_pos l] at a
      exact ⟨b, vs, ev, Evl.ex_l sv hx, hs.len.trans l, h P V H sv st σ ρ vs ds Q p hs a⟩
    · simp only [if_neg l] at a
  cases r with
  | lst hx hs => exact go rfl (SqL.of hx) hs rfl
  | rls hx hs => exact go rfl hx hs rfl
  | _ => exact a.elim
/-- tuple(range(e)) -/
def tRgF (d : D) (s : S) : R D := match d with
  | .int k => if 0 ≤ k ∧ k ≤ 1000 then .ok (.tup (rngD 0 k.toNat)) s else .un
  | _ => .un
end
end Pp

set_option maxHeartbeats 1000000
/-! PpB: tuple(range(..)), found.append(stock.pop(..)). -/
namespace Pp
open PySem PySem.Spec PyProof.Rows L2 Pg Pf LamX Rul
section
variable {K : PySem.W.Frag} {Z : Zn} {E : XK} {te : TE} {f : Slots → S → R D}
theorem dv_rng {G : Hp} (k : Int) : DvA K Z G (rgV 0 k) (rngD 0 k.toNat) := by
  have e : ∀ l : List Nat, DvA K Z G (l.map fun i => V.int ((0 : Int) + (i : Nat))) (l.map fun i => D.int ((0 : Int) + (i : Nat))) := by
    intro l
    induction l with
    | nil => exact .nil
    | cons i l ih => exact .cons (.int _) ih
  unfold rgV rngD
  rw [Int.sub_zero]
  exact e _
theorem c_tupRg (h : Cmp K Z E te f) : Cmp K Z E (tTupRg (tRg1 te)) (b1 tRgF f) := fun V H σ ρ s Q w p a =>
  h V H σ ρ s _ w p (Ans.bind a fun d s1 v V1 H1 n1 w1 r1 a1 => by
    cases r1 with
    | int k =>
      replace a1 : Ans K Z E (Dv K Z) (if 0 ≤ k ∧ k ≤ 1000 then .ok (.tup (rngD 0 k.toNat)) s1 else .un) s1 V1 H1 Q := a1
      by_cases l : 0 ≤ k ∧ k ≤ 1000
      · rw [if_pos l] at a1
        exact ⟨k, rfl, RgOk.of_le (by omega) (by omega) (by omega) (by omega), new_tup w1 (dv_rng k) a1⟩
      · rw [if_neg l] at a1
        exact a1.elim
    | _ => exact a1.elim)
def popS (i j : Nat) (f : Slots → S → R D) (ρ : Slots) (s : S) : R Fl := match ρ[i]?, ρ[j]? with
  | some (.ow (.ls ds)), some (.ow (.ls es)) => (f ρ s).bind fun d s => match d with
    | .int k => match L2.atI es k with
      | some y => if 0 ≤ k ∧ fits (ds.length + 1) = true ∧ es.length ≤ 1000 then .ok (.nx ((ρ.set j (.ow (.ls (es.eraseIdx k.toNat)))).set i (.ow (.ls (ds ++ [y]))))) s else .un
      | none => .un
    | _ => .un
  | _, _ => .un
theorem DvA.erase : ∀ {G : Hp} {vs : List L2.V} {ds : List D} (n : Nat), DvA K Z G vs ds → DvA K Z G (vs.eraseIdx n) (ds.eraseIdx n)
  | _, _, _, 0, .nil => .nil
  | _, _, _, _ + 1, .nil => .nil
  | _, _, _, 0, .cons a b => b
  | _, _, _, n + 1, .cons a b => .cons a (b.erase n)
theorem cs_pop {i j : Nat} (ij : i ≠ j) (h : Cmp K Z E te f) : CmpS K Z E (tDrop (tBM K "list" rAppend (tVar i) (tCons (tBM K "list" rPopAt (tVar j) (tCons te tNil)) tNil))) (popS i j f) := fun s0 G0 H0 G H σ ρ s D r a => by
  unfold popS at a
  match ei : ρ[i]?, ej : ρ[j]?, a with
  | some (.ow (.ls ds)), some (.ow (.ls es)), a =>
    obtain ⟨b, u, h1, h2, h3, h4, h5⟩ := r.p.ow i _ ei
    obtain ⟨c, u', k1, k2, k3, k4, k5⟩ := r.p.ow j _ ej
    have bc : b ≠ c := fun z => by
      subst z
      exact r.dis i j _ _ b ij ei ej h1 k1
    cases h3 with
    | @ls vs _ hs =>
      cases k3 with
      | @ls ws _ ks =>
        refine ⟨.ref b, h1, .inl ⟨rfl, _, SqL.of h2⟩, ?_⟩
        refine ⟨.ref c, k1, .inl ⟨rfl, _, SqL.of k2⟩, ?_⟩
        refine h G H σ ρ s _ r.w r.p (AnsS.bindF r a fun d s1 v V1 H1 n1 w1 q a1 => ?_)
        cases q with
        | int k =>
          replace a1 : AnsS K Z E (match L2.atI es k with | some y => if 0 ≤ k ∧ fits (ds.length + 1) = true ∧ es.length ≤ 1000 then .ok (.nx ((ρ.set j (.ow (.ls (es.eraseIdx k.toNat)))).set i (.ow (.ls (ds ++ [y]))))) s1 else .un | none => .un) s0 G0 H0 V1 D := a1
          cases e : L2.atI es k with
          | none =>
            rw [e] at a1
            exact a1.elim
          | some y =>
            rw [e] at a1
            replace a1 : AnsS K Z E (if 0 ≤ k ∧ fits (ds.length + 1) = true ∧ es.length ≤ 1000 then .ok (.nx ((ρ.set j (.ow (.ls (es.eraseIdx k.toNat)))).set i (.ow (.ls (ds ++ [y]))))) s1 else .un) s0 G0 H0 V1 D := a1
            by_cases z : 0 ≤ k ∧ fits (ds.length + 1) = true ∧ es.length ≤ 1000
            · rw [if_pos z] at a1
              have r1 := r.on n1 w1
              have ks1 := DvA.mono n1.g _ _ ks
              have hs1 := DvA.mono n1.g _ _ hs
              obtain ⟨yv, y1, y2⟩ := DvA.atI ks1 e
              have hc := n1.h c _ k2 (fun ps z => by cases z) k5
              have hb := n1.h b _ h2 (fun ps z => by cases z) h5
              unfold L2.atI at y1
              cases e2 : ixN ws.length k with
              | none =>
                rw [e2] at y1
                cases y1
              | some m =>
                rw [e2] at y1
                obtain ⟨sx, l1, l2, l3⟩ := ixN_seq e2
                have em : m = k.toNat := by
                  unfold ixN at e2
                  rw [if_pos z.1] at e2
                  split at e2
                  · exact (Option.some.inj e2).symm
                  · rename_i hn
                    exact absurd l3 hn
                have lw : ws.length ≤ 1000 := by rw [ks.len]; exact z.2.2
                refine ⟨c, ws, k, m, yv, rfl, rfl, hc, by omega, by omega, sx, y1, ?_⟩
                have r2 := r1.mut ej k1 (HD.ls (ks1.erase m))
                have ei2 : (ρ.set j (.ow (.ls (es.eraseIdx m))))[i]? = some (.ow (.ls ds)) := by
                  rw [List.getElem?_set_ne (Ne.symm ij)]
                  exact ei
                have r3 := r2.mut ei2 h1 (HD.ls (hs1.snoc y2))
                refine ⟨b, vs, yv, rfl, rfl, by rw [upd_ne bc]; exact hb, ?_, ?_⟩
                · rw [hs.len]
                  have := fits_lt z.2.1
                  omega
                · rw [← em] at a1
                  exact a1 _ V1 _ (Same.refl _) r3
            · rw [if_neg z] at a1
              exact a1.elim
        | _ => exact a1.elim
  | none, _, a => exact a.elim
  | some .no, _, a => exact a.elim
  | some (.fz d), _, a => exact a.elim
  | some (.ow (.is c ns ds)), _, a => exact a.elim
  | some (.ow (.ls ds)), none, a => exact a.elim
  | some (.ow (.ls ds)), some .no, a => exact a.elim
  | some (.ow (.ls ds)), some (.fz d), a => exact a.elim
  | some (.ow (.ls ds)), some (.ow (.is c ns es)), a => exact a.elim
end
end Pp

set_option maxHeartbeats 1000000
/-! PpC: rows = [list(row) for row in x]; rows[n][k] = v. -/
namespace Pp
open PySem PySem.Spec PyProof.Rows L2 Pg Pf LamX Rul
section
variable {K : PySem.W.Frag} {Z : Zn} {E : XK}
theorem RepF.no {s0 s : S} {G0 H0 G H : Hp} {σ : L2.St} {ρ : Slots} (r : RepF K Z s0 G0 H0 G H σ ρ s) (i : Nat) (x : Option V) : RepF K Z s0 G0 H0 G H (σ.set i x) (ρ.set i .no) s := by
  have old : ∀ {j : Nat} {y : Sl}, y ≠ .no → (ρ.set i .no)[j]? = some y → j ≠ i ∧ ρ[j]? = some y := fun {j y} hy e => by
    by_cases z : j = i
    · subst z
      by_cases l : j < ρ.length
      · rw [List.getElem?_set_self l] at e
        exact absurd (Option.some.inj e).symm hy
      · rw [List.getElem?_eq_none (by rw [List.length_set]; omega)] at e
        cases e
    · rw [List.getElem?_set_ne (Ne.symm z)] at e
      exact ⟨z, e⟩
  have σo : ∀ {j : Nat}, j ≠ i → (σ.set i x)[j]? = σ[j]? := fun {j} z => List.getElem?_set_ne (Ne.symm z)
  refine ⟨r.nx, r.w, ⟨fun j d e => ?_, fun j o e => ?_, by rw [List.length_set, List.length_set]; exact r.len⟩, fun j o a e1 e2 => ?_, fun j k o u a n e1 e2 e3 e4 => ?_, by rw [List.length_set, List.length_set]; exact r.len⟩
  · obtain ⟨z, e⟩ := old (by simp) e
    rw [σo z]
    exact r.p.fz j d e
  · obtain ⟨z, e⟩ := old (by simp) e
    rw [σo z]
    exact r.p.ow j o e
  · obtain ⟨z, e⟩ := old (by simp) e1
    rw [σo z] at e2
    exact r.new j o a e e2
  · obtain ⟨z, e⟩ := old (by simp) e1
    obtain ⟨z2, f⟩ := old (by simp) e2
    rw [σo z] at e3
    rw [σo z2] at e4
    exact r.dis j k o u a n e f e3 e4
theorem nmc {α : Type} {q p : α} {ps : List α} (h : q ∉ p :: ps) : q ≠ p ∧ q ∉ ps := ⟨fun z => h (by rw [z]; exact List.mem_cons_self ..), fun z => h (List.mem_cons_of_mem _ z)⟩
/-- the lists at ps hold rows -/
inductive Rws (K : PySem.W.Frag) (Z : Zn) (V0 H0 V H : Hp) (s : S) : List Addr → List (List D) → Prop
  | nil : Rws K Z V0 H0 V H s [] []
  | cons {p : Addr} {ps : List Addr} {vs : List L2.V} {ds : List D} {rs : List (List D)} (h : H p = some (.lst vs)) (hs : DvA K Z V vs ds) (v : V p = none) (f : Fre H0 p) (i : ¬ inS s p) (n : p ∉ ps) (t : Rws K Z V0 H0 V H s ps rs) : Rws K Z V0 H0 V H s (p :: ps) (ds :: rs)
theorem Rws.later {V0 H0 V H V' H' : Hp} {s s' : S} (x : Nx s s' V H V' H') : ∀ {ps : List Addr} {rs : List (List D)}, Rws K Z V0 H0 V H s ps rs → Rws K Z V0 H0 V' H' s' ps rs
  | _, _, .nil => .nil
  | _, _, .cons h hs v f i n t => .cons (x.h _ _ h (fun _ z => by cases z) i) (DvA.mono x.g _ _ hs) (x.not v h fun _ z => by cases z) f (by rw [inS_of x.a]; exact i) n (t.later x)
theorem Rws.upd_ne {V0 H0 V H : Hp} {s : S} {q : Addr} {o : HO} : ∀ {ps : List Addr} {rs : List (List D)}, Rws K Z V0 H0 V H s ps rs → q ∉ ps → Rws K Z V0 H0 V (upd H q o) s ps rs
  | _, _, .nil, _ => .nil
  | _, _, .cons h hs v f i n t, hq => by
    have h1 := nmc hq
    exact .cons (by rw [L2.upd_ne (Ne.symm h1.1)]; exact h) hs v f i n (t.upd_ne h1.2)
theorem Rws.len {V0 H0 V H : Hp} {s : S} : ∀ {ps : List Addr} {rs : List (List D)}, Rws K Z V0 H0 V H s ps rs → ps.length = rs.length
  | _, _, .nil => rfl
  | _, _, .cons _ _ _ _ _ _ t => by rw [List.length_cons, List.length_cons, t.len]
theorem Rws.snoc {V0 H0 V H : Hp} {s : S} {q : Addr} {vs : List L2.V} {ds : List D} (h : H q = some (.lst vs)) (hs : DvA K Z V vs ds) (v : V q = none) (f : Fre H0 q) (i : ¬ inS s q) : ∀ {ps : List Addr} {rs : List (List D)}, Rws K Z V0 H0 V H s ps rs → q ∉ ps → Rws K Z V0 H0 V H s (ps ++ [q]) (rs ++ [ds])
  | _, _, .nil, _ => .cons h hs v f i (by simp) .nil
  | _, _, .cons h' hs' v' f' i' n t, hq => by
    have h1 := nmc hq
    refine .cons h' hs' v' f' i' ?_ (Rws.snoc h hs v f i t h1.2)
    intro z
    rcases List.mem_append.mp z with z | z
    · exact n z
    · exact h1.1 (List.mem_singleton.mp z).symm
theorem Rws.at {V0 H0 V H : Hp} {s : S} : ∀ {ps : List Addr} {rs : List (List D)} {n : Nat} {ds : List D}, Rws K Z V0 H0 V H s ps rs → rs[n]? = some ds → ∃ p vs, ps[n]? = some p ∧ H p = some (.lst vs) ∧ DvA K Z V vs ds ∧ V p = none ∧ Fre H0 p ∧ ¬ inS s p
  | _, _, 0, ds, .cons h hs v f i _ t, e => by
    cases e
    exact ⟨_, _, rfl, h, hs, v, f, i⟩
  | _, _, n + 1, ds, .cons h hs v f i _ t, e => t.at (n := n) e
  | _, _, n, ds, .nil, e => by simp at e
/-- one of the lists changes -/
theorem Rws.set {V0 H0 V H : Hp} {s : S} {ws : List L2.V} {es : List D} (hw : DvA K Z V ws es) : ∀ {ps : List Addr} {rs : List (List D)} {n : Nat} {p : Addr}, Rws K Z V0 H0 V H s ps rs → ps[n]? = some p → Rws K Z V0 H0 V (upd H p (.lst ws)) s ps (rs.set n es)
  | _, _, 0, p, .cons h hs v f i nn t, e => by
    cases e
    exact .cons upd_same hw v f i nn (t.upd_ne nn)
  | _, _, n + 1, p, .cons h hs v f i nn t, e => by
    have hp : p ∈ _ := List.mem_of_getElem? (show _[n]? = some p from e)
    exact .cons (by rw [L2.upd_ne fun z => nn (by rw [z]; exact hp)]; exact h) hs v f i nn (t.set hw (n := n) e)
  | _, _, n, p, .nil, e => by simp at e
/-- all the lists are known for good from now on -/
theorem Rws.froz {T : List (Addr × Str)} {V0 H0 V H : Hp} {s s0 : S} : ∀ {ps : List Addr} {rs : List (List D)}, Rws K Z V0 H0 V H s ps rs → Nx s0 s V0 H0 V H → Wd T V H s → ∃ V', Same V V' ∧ Nx s0 s V0 H0 V' H ∧ Wd T V' H s ∧ DvA K Z V' (ps.map L2.V.ref) (rs.map D.lst) ∧ (∀ p, V p = none → p ∉ ps → V' p = none)
  | _, _, .nil, x, w => ⟨V, Same.refl _, x, w, .nil, fun p h _ => h⟩
  | _, _, .cons (p := p) (vs := vs) h hs v f i nn t, x, w => by
    obtain ⟨V', e1, x1, w1, d1, o1⟩ := t.froz x w
    have v1 := o1 p v nn
    refine ⟨upd V' p (.lst vs), e1.trans (Same.new v1), x1.freeze f v1, w1.freeze h (fun _ z => by cases z) i, .cons (.lst upd_same (DvA.mono (e1.trans (Same.new v1)) _ _ hs)) (DvA.mono (Same.new v1) _ _ d1), fun q hq hn => ?_⟩
    have h1 := nmc hn
    rw [L2.upd_ne h1.1]
    exact o1 q hq h1.2
def rowsOf : List D → Option (List (List D))
  | [] => some []
  | d :: ds => match itsD d, rowsOf ds with
    | some r, some rs => some (r :: rs)
    | _, _ => none
theorem rowsOf_at : ∀ {ds : List D} {rs : List (List D)} {i : Nat} {d : D}, rowsOf ds = some rs → ds[i]? = some d → ∃ r, itsD d = some r ∧ rs[i]? = some r
  | d :: ds, rs, i, e, h, hd => by
    unfold rowsOf at h
    cases e1 : itsD d with
    | none =>
      rw [e1] at h
      cases h
    | some r =>
      cases e2 : rowsOf ds with
      | none =>
        rw [e1, e2] at h
        cases h
      | some rr =>
        rw [e1, e2] at h
        cases h
        cases i with
        | zero =>
          cases hd
          exact ⟨r, e1, rfl⟩
        | succ i => exact rowsOf_at (i := i) e2 hd
  | [], _, _, _, _, hd => by simp at hd
theorem rowsOf_len : ∀ {ds : List D} {rs : List (List D)}, rowsOf ds = some rs → rs.length = ds.length
  | [], rs, h => by
    cases h
    rfl
  | d :: ds, rs, h => by
    unfold rowsOf at h
    cases e1 : itsD d with
    | none =>
      rw [e1] at h
      cases h
    | some r =>
      cases e2 : rowsOf ds with
      | none =>
        rw [e1, e2] at h
        cases h
      | some rr =>
        rw [e1, e2] at h
        cases h
        rw [List.length_cons, List.length_cons, rowsOf_len e2]
def rowsE (i : Nat) (ρ : Slots) (rs : List (List D)) (v : D) (n : Nat) (r : List D) (b : D) (s : S) : R Fl := match b with
  | .int k => if 0 ≤ k ∧ k < r.length then .ok (.nx (ρ.set i (.fz (.lst ((rs.set n (r.set k.toNat v)).map D.lst))))) s else .un
  | _ => .un
def rowsA (i : Nat) (fb : Slots → S → R D) (ρ : Slots) (rs : List (List D)) (v a : D) (s : S) : R Fl := match a with
  | .int n => match rs[n.toNat]? with
    | some r => if 0 ≤ n then (fb (ρ.set i .no) s).bind fun b s => rowsE i ρ rs v n.toNat r b s else .un
    | none => .un
  | _ => .un
def rowsK (i : Nat) (fv fa fb : Slots → S → R D) (ρ : Slots) (rs : List (List D)) (s : S) : R Fl := if fits rs.length = true then (fv (ρ.set i .no) s).bind fun v s => (fa (ρ.set i .no) s).bind fun a s => rowsA i fb ρ rs v a s else .un
def rowsS (i r : Nat) (f0 fv fa fb : Slots → S → R D) (ρ : Slots) (s : S) : R Fl := (f0 ρ s).bind fun d s => match (itsD d).bind rowsOf with
  | some rs => if i < ρ.length ∧ r < ρ.length then rowsK i fv fa fb ρ rs s else .un
  | none => .un
/-- its reading -/
def tRows (K : PySem.W.Frag) (i r : Nat) (t0 tv ta tb : TE) : TS := tSeq (tAsg (tLc (iSeq K t0) (gName r) tYes (tCB (fun xs H Q => ∃ p ys, xs = [.ref p] ∧ (SqL K H p ys ∨ SqT K H p ys) ∧ ∀ l, H l = none → Q (.ref l) (upd H l (.lst ys))) (tCons (tVar r) tNil)) [r]) (gName i)) (tAsg tv (gSub (tOp (rIx K) (tVar i) ta) tb rSetL))
theorem itsD_of {V H : Hp} {s : S} {v : L2.V} {d : D} {ds : List D} (w : Wd Z.T V H s) (h : Dv K Z V v d) (e : itsD d = some ds) : ∃ a vs, v = .ref a ∧ (SqL K H a vs ∨ SqT K H a vs) ∧ DvA K Z V vs ds := by
  cases h with
  | lst h hs =>
    cases e
    exact ⟨_, _, rfl, .inl (SqL.of (w.sv _ _ h)), hs⟩
  | rls h hs =>
    cases e
    exact ⟨_, _, rfl, .inl (Evl.ex_l w.sv h), hs⟩
  | tup h hs =>
    cases e
    exact ⟨_, _, rfl, .inr (Evl.ex_t w.sv h), hs⟩
  | _ => cases e
theorem Rws.mem {V0 H0 V H : Hp} {s : S} {q : Addr} : ∀ {ps : List Addr} {rs : List (List D)}, Rws K Z V0 H0 V H s ps rs → q ∈ ps → H q ≠ none
  | _, _, .cons h hs v f i n t, hq => by
    rcases List.mem_cons.mp hq with e | e
    · rw [e, h]
      simp
    · exact t.mem e
abbrev rList (K : PySem.W.Frag) : List L2.V → Hp → VK → Prop := fun xs H Q => ∃ p ys, xs = [.ref p] ∧ (SqL K H p ys ∨ SqT K H p ys) ∧ ∀ l, H l = none → Q (.ref l) (upd H l (.lst ys))
theorem rows_end {i r : Nat} {tv ta tb : TE} {fv fa fb : Slots → S → R D} (hv : Cmp K Z E tv fv) (ha : Cmp K Z E ta fa) (hb : Cmp K Z E tb fb) {s0 s1 : S} {G0 H0 V1 H1 V2 H2 : Hp} {σ : L2.St} {ρ : Slots} {D0 : Ends} {rs : List (List D)} {ps : List Addr} {L : Addr}
    (r1 : RepF K Z s0 G0 H0 V1 H1 σ ρ s1) (li : i < ρ.length) (a1 : AnsS K Z E (rowsK i fv fa fb ρ rs s1) s0 G0 H0 V1 D0) (hL : H1 L = none)
    (n2 : Nx s1 s1 V1 H1 V2 H2) (w2 : Wd Z.T V2 H2 s1) (vL : V2 L = none) (Lp : L ∉ ps) (h2 : H2 L = some (.lst (ps.map L2.V.ref))) (rw2 : Rws K Z V1 H1 V2 H2 s1 ps rs) :
    tAsg tv (gSub (tOp (rIx K) (tVar i) ta) tb rSetL) D0 (σ.set i (some (.ref L))) H2 := by
  have is1 : ¬ inS s1 L := fun y => r1.w.mr.inH y hL
  have r2 := r1.on n2 w2
  have r3 := r2.no i (some (.ref L))
  have σi : (σ.set i (some (L2.V.ref L)))[i]? = some (some (.ref L)) := List.getElem?_set_self (by rw [r1.len]; exact li)
  have a2 := AnsS.later n2.g a1
  unfold rowsK at a2
  by_cases fz : fits rs.length = true
  case neg =>
    rw [if_neg fz] at a2
    exact a2.elim
  rw [if_pos fz] at a2
  refine hv V2 H2 _ _ s1 _ w2 r3.p (AnsS.bindF r3 a2 fun dv s3 v V3 H3 n3 w3 rv a3 => ?_)
  have r4 := r3.on n3 w3
  refine ⟨.ref L, σi, ha V3 H3 _ _ s3 _ w3 r4.p (AnsS.bindF r4 a3 fun da s4 av V4 H4 n4 w4 ra a4 => ?_)⟩
  have r5 := r4.on n4 w4
  cases ra with
  | int n =>
    unfold rowsA at a4
    simp only at a4
    cases er : rs[n.toNat]? with
    | none =>
      rw [er] at a4
      exact a4.elim
    | some row =>
      rw [er] at a4
      simp only at a4
      by_cases n0 : 0 ≤ n
      case neg =>
        rw [if_neg n0] at a4
        exact a4.elim
      rw [if_pos n0] at a4
      have x4 := n3.trans n4
      have is4 : ¬ inS s3 L := by rw [inS_of n3.a]; exact is1
      have is5 : ¬ inS s4 L := by rw [inS_of n4.a]; exact is4
      have h3 := n3.h L _ h2 (fun _ z => by cases z) is1
      have h4 := n4.h L _ h3 (fun _ z => by cases z) is4
      have v4 := x4.not vL h2 (fun _ z => by cases z)
      have rw4 := rw2.later x4
      obtain ⟨p, vs, ep, hp, hs, vp, fp, ip⟩ := rw4.at er
      have ln := rw4.len
      have ln2 : n.toNat < rs.length := (List.getElem?_eq_some_iff.mp er).1
      refine .inl ⟨L, ps.map L2.V.ref, n, .ref p, rfl, rfl, SqL.of h4, ?_, ?_⟩
      · unfold L2.atI ixN
        rw [List.length_map, if_pos n0, if_pos (by omega)]
        show (ps.map L2.V.ref)[n.toNat]? = _
        rw [List.getElem?_map, ep]
        rfl
      · refine hb V4 H4 _ _ s4 _ w4 r5.p (AnsS.bindF r5 a4 fun db s5 bv V5 H5 n5 w5 rb a5 => ?_)
        unfold rowsE at a5
        cases rb with
        | int k =>
          simp only at a5
          by_cases kk : 0 ≤ k ∧ k < row.length
          case neg =>
            rw [if_neg kk] at a5
            exact a5.elim
          rw [if_pos kk] at a5
          have x5 := (n2.trans x4).trans n5
          have rw5 := rw4.later n5
          have h5 := n5.h L _ h4 (fun _ z => by cases z) is5
          have v5 := n5.not v4 h4 (fun _ z => by cases z)
          have hp5 := n5.h p _ hp (fun _ z => by cases z) ip
          have vp5 := n5.not vp hp (fun _ z => by cases z)
          have ip5 : ¬ inS s5 p := by rw [inS_of n5.a]; exact ip
          have is6 : ¬ inS s5 L := by rw [inS_of n5.a]; exact is5
          have hs5 := DvA.mono n5.g _ _ hs
          have rv5 := Dv.mono (n4.g.trans n5.g) _ _ rv
          refine ⟨p, vs, k, k.toNat, rfl, rfl, hp5, ?_, ?_⟩
          · unfold ixN
            rw [if_pos kk.1, if_pos (by rw [hs.len]; exact kk.2)]
          · have rw6 := rw5.set (hs5.set k.toNat rv5) ep
            have x6 := x5.mut (o := .lst (vs.set k.toNat v)) fp
            have w6 := w5.mut (o := .lst (vs.set k.toNat v)) hp5 vp5 ip5 (fun _ z => by cases z) (fun _ z => by cases z)
            obtain ⟨V7, e7, x7, w7, d7, o7⟩ := rw6.froz x6 w6
            have pm : p ∈ ps := List.mem_of_getElem? ep
            have Lnp : L ≠ p := fun z => Lp (by rw [z]; exact pm)
            have h7 : (upd H5 p (.lst (vs.set k.toNat v))) L = some (.lst (ps.map L2.V.ref)) := by
              rw [L2.upd_ne Lnp]
              exact h5
            have v7 := o7 L v5 Lp
            have x8 := x7.freeze (p := L) (o := .lst (ps.map L2.V.ref)) (.inl hL) v7
            have w8 := w7.freeze h7 (fun _ z => by cases z) is6
            have e8 : Same V7 (upd V7 L (.lst (ps.map L2.V.ref))) := Same.new v7
            exact a5 _ _ _ (e7.trans e8) ((r1.on x8 w8).set (.lst upd_same (DvA.mono e8 _ _ d7)))
        | _ => exact a5.elim
  | _ => exact a4.elim
theorem cs_rows {i r : Nat} {t0 tv ta tb : TE} {f0 fv fa fb : Slots → S → R D} (h0 : Cmp K Z E t0 f0) (hv : Cmp K Z E tv fv) (ha : Cmp K Z E ta fa) (hb : Cmp K Z E tb fb) : CmpS K Z E (tRows K i r t0 tv ta tb) (rowsS i r f0 fv fa fb) := fun s0 G0 H0 G H σ ρ s D0 rr a => by
  refine h0 G H σ ρ s _ rr.w rr.p (AnsS.bindF rr a fun d s1 v V1 H1 n1 w1 rd a1 => ?_)
  cases ed : itsD d with
  | none =>
    rw [ed] at a1
    exact a1.elim
  | some ds =>
    rw [ed] at a1
    replace a1 : AnsS K Z E (match rowsOf ds with | some rs => if i < ρ.length ∧ r < ρ.length then rowsK i fv fa fb ρ rs s1 else .un | none => .un) s0 G0 H0 V1 D0 := a1
    cases er : rowsOf ds with
    | none =>
      rw [er] at a1
      exact a1.elim
    | some rs =>
      rw [er] at a1
      replace a1 : AnsS K Z E (if i < ρ.length ∧ r < ρ.length then rowsK i fv fa fb ρ rs s1 else .un) s0 G0 H0 V1 D0 := a1
      by_cases l : i < ρ.length ∧ r < ρ.length
      case neg =>
        rw [if_neg l] at a1
        exact a1.elim
      rw [if_pos l] at a1
      have r1 := rr.on n1 w1
      have ln := rowsOf_len er
      have main : ∀ J, ItR K Z V1 J ds → ∀ L, H1 L = none → ∃ W : Nat → Nat → Hp → Prop, (∃ m, W 0 m (upd H1 L (.lst []))) ∧ ∀ k m H, W k m H →
          (J.stop k H ∧ gName i (.ref L) σ H fun σ H => tAsg tv (gSub (tOp (rIx K) (tVar i) ta) tb rSetL) D0 σ H) ∨ (J.go k H ∧ ∃ Nx : Hp → Prop, (∀ H', Nx H' → ∃ m', m' < m ∧ W (k + 1) m' H') ∧ ∀ x H', J.yld k H x H' → gName r x (wipe σ [r]) H' fun σ2 H2 => wipe σ2 [r] = wipe σ [r] ∧ tYes σ2 H2 fun b H3 =>
            if b = true then (tCB (rList K) (tCons (tVar r) tNil)) σ2 H3 fun y H4 => ∃ acc, H4 L = some (.lst acc) ∧ acc.length < sizeLine ∧ Nx (upd H4 L (.lst (acc ++ [y]))) else Nx H3) := by
        intro J it L hL
        have gL : V1 L = none := w1.sv.free hL
        have iL : ¬ inS s1 L := fun y => w1.mr.inH y hL
        refine ⟨fun k m H2 => m = ds.length - k ∧ k ≤ ds.length ∧ ∃ V2 ps, Nx s1 s1 V1 H1 V2 H2 ∧ Wd Z.T V2 H2 s1 ∧ V2 L = none ∧ L ∉ ps ∧ H2 L = some (.lst (ps.map L2.V.ref)) ∧ Rws K Z V1 H1 V2 H2 s1 ps (rs.take k),
          ⟨ds.length, by simp, Nat.zero_le _, V1, [], Nx.up hL, w1.up hL, gL, by simp, upd_same, by rw [List.take_zero]; exact .nil⟩, ?_⟩
        rintro k m H2 ⟨rfl, hk, V2, ps, n2, w2, v2, Lp, h2, rw2⟩
        by_cases lk : k < ds.length
        · refine .inr ⟨it.go k V2 H2 n2.g w2.sv lk, fun H3 => ∃ V2 ps, Nx s1 s1 V1 H1 V2 H3 ∧ Wd Z.T V2 H3 s1 ∧ V2 L = none ∧ L ∉ ps ∧ H3 L = some (.lst (ps.map L2.V.ref)) ∧ Rws K Z V1 H1 V2 H3 s1 ps (rs.take (k + 1)), fun H3 y => ⟨ds.length - (k + 1), by omega, rfl, lk, y⟩, fun x H3 y => ?_⟩
          obtain ⟨d1, ed1, y⟩ := it.yld k V2 H2 x H3 n2.g w2.sv lk y
          obtain ⟨row, e1, e2⟩ := rowsOf_at er ed1
          have go : ∀ V3, Nx s1 s1 V2 H2 V3 H3 → Wd Z.T V3 H3 s1 → Dv K Z V3 x d1 → V3 L = none → H3 L = some (.lst (ps.map L2.V.ref)) → gName r x (wipe σ [r]) H3 fun σ2 H2 => wipe σ2 [r] = wipe σ [r] ∧ tYes σ2 H2 fun b H3 =>
              if b = true then (tCB (rList K) (tCons (tVar r) tNil)) σ2 H3 fun y H4 => ∃ acc, H4 L = some (.lst acc) ∧ acc.length < sizeLine ∧ (∃ V2 ps, Nx s1 s1 V1 H1 V2 (upd H4 L (.lst (acc ++ [y]))) ∧ Wd Z.T V2 (upd H4 L (.lst (acc ++ [y]))) s1 ∧ V2 L = none ∧ L ∉ ps ∧ (upd H4 L (.lst (acc ++ [y]))) L = some (.lst (ps.map L2.V.ref)) ∧ Rws K Z V1 H1 V2 (upd H4 L (.lst (acc ++ [y]))) s1 ps (rs.take (k + 1))) else (∃ V2 ps, Nx s1 s1 V1 H1 V2 H3 ∧ Wd Z.T V2 H3 s1 ∧ V2 L = none ∧ L ∉ ps ∧ H3 L = some (.lst (ps.map L2.V.ref)) ∧ Rws K Z V1 H1 V2 H3 s1 ps (rs.take (k + 1))) := by
            intro V3 n3 w3 hd v3 h3
            refine ⟨(wipe_set (List.mem_singleton.mpr rfl)).trans (wipe_wipe σ [r] [r] fun _ h => h), ?_⟩
            unfold tYes
            dsimp only
            rw [if_pos rfl]
            obtain ⟨b, vs, rfl, hsq, hs⟩ := itsD_of w3 hd e1
            refine ⟨.ref b, ?_, b, vs, rfl, hsq, fun q hq => ?_⟩
            · show ((wipe σ [r]).set r (some (L2.V.ref b)))[r]? = _
              refine List.getElem?_set_self ?_
              show r < (σ.set r none).length
              rw [List.length_set, r1.len]
              exact l.2
            · have Lq : L ≠ q := ne_of_none h3 hq
              have rw3 := rw2.later n3
              have qp : q ∉ ps := fun z => rw3.mem z hq
              have iq : ¬ inS s1 q := fun y => w3.mr.inH y hq
              have hL4 : (upd H3 q (.lst vs)) L = some (.lst (ps.map L2.V.ref)) := by
                rw [L2.upd_ne Lq]
                exact h3
              have lp := rw3.len
              refine ⟨ps.map L2.V.ref, hL4, ?_, V3, ps ++ [q], ((n2.trans n3).trans (Nx.up hq)).mut (.inl hL), (w3.up hq).mut hL4 v3 iL (fun _ z => by cases z) (fun _ z => by cases z), v3, ?_, ?_, ?_⟩
              · rw [List.length_map, lp, List.length_take]
                refine Nat.lt_of_le_of_lt (Nat.min_le_right _ _) ?_
                by_cases fz : fits rs.length = true
                · exact fits_lt fz
                · unfold rowsK at a1
                  rw [if_neg fz] at a1
                  exact a1.elim
              · intro z
                rcases List.mem_append.mp z with z | z
                · exact Lp z
                · exact Lq (List.mem_singleton.mp z)
              · rw [upd_same, List.map_append]
                rfl
              · have e9 : rs.take (k + 1) = rs.take k ++ [row] := by
                  rw [List.take_add_one, e2]
                  rfl
                rw [e9]
                refine ((rw3.upd_ne (o := .lst vs) qp).snoc upd_same hs (w3.sv.free hq) ((n2.trans n3).k q (.inl hq)) iq qp).upd_ne fun z => ?_
                rcases List.mem_append.mp z with z | z
                · exact Lp z
                · exact Lq (List.mem_singleton.mp z)
          rcases y with ⟨rfl, hd⟩ | ⟨T, xs, rfl, nT, rfl, hd⟩
          · exact go V2 (Nx.refl _ _ _) w2 hd v2 h2
          · have ne : L ≠ T := ne_of_none h2 nT
            exact go _ (Nx.new w2 nT) (w2.new nT fun _ z => by cases z) hd (by rw [L2.upd_ne ne]; exact v2) (by rw [L2.upd_ne ne]; exact h2)
        · have ek : k = ds.length := by omega
          subst ek
          rw [List.take_of_length_le (by omega)] at rw2
          exact .inl ⟨it.stop V2 H2 n2.g w2.sv, rows_end (r := r) hv ha hb r1 l.1 a1 hL n2 w2 v2 Lp h2 rw2⟩
      cases rd with
      | @lst b vs _ hx hs =>
        cases ed
        exact ⟨b, rfl, .inl ⟨⟨_, Evl.ex_l w1.sv (SqL.of hx)⟩, main _ (itR_list (SqL.of hx) hs)⟩⟩
      | @rls b vs _ hx hs =>
        cases ed
        exact ⟨b, rfl, .inl ⟨⟨_, Evl.ex_l w1.sv hx⟩, main _ (itR_list hx hs)⟩⟩
      | @tup b vs _ hx hs =>
        cases ed
        exact ⟨b, rfl, .inr ⟨⟨_, Evl.ex_t w1.sv hx⟩, main _ (itR_tup hx hs)⟩⟩
      | _ => cases ed
end
end Pp

set_option maxHeartbeats 1000000
/-! PpE: a, b = list(x), []; what stands between statements. -/
namespace Pp
open PySem PySem.Spec PyProof.Rows L2 Pg Pf LamX Rul
abbrev rTuple (K : PySem.W.Frag) : List L2.V → Hp → VK → Prop := fun xs H Q => ∃ p ys, xs = [.ref p] ∧ ((SqL K H p ys ∧ ∀ l, H l = none → Q (.ref l) (upd H l (.tup ys))) ∨ (SqT K H p ys ∧ Q (.ref p) H))
section
variable {K : PySem.W.Frag} {Z : Zn} {E : XK}
theorem cs_rowsThen {i r : Nat} {t0 tv ta tb : TE} {f0 fv fa fb : Slots → S → R D} {t3 : TS} {F3 : Slots → S → R Fl} (h0 : Cmp K Z E t0 f0) (hv : Cmp K Z E tv fv) (ha : Cmp K Z E ta fa) (hb : Cmp K Z E tb fb) (h3 : CmpS K Z E t3 F3) :
    CmpS K Z E (tSeq (tAsg (tLc (iSeq K t0) (gName r) tYes (tCB (rList K) (tCons (tVar r) tNil)) [r]) (gName i)) (tSeq (tAsg tv (gSub (tOp (rIx K) (tVar i) ta) tb rSetL)) t3)) (seqS (rowsS i r f0 fv fa fb) F3) := by
  have h := cs_seq (cs_rows (i := i) (r := r) h0 hv ha hb) h3
  exact h
def parW (i j : Nat) (f : Slots → S → R D) (ρ : Slots) (s : S) : R Fl := (f ρ s).bind fun d s => match itsD d with
  | some ds => if fits ds.length = true then .ok (.nx ((ρ.set i (.ow (.ls ds))).set j (.ow (.ls [])))) s else .un
  | none => .un
theorem cs_parW {i j : Nat} (ij : i ≠ j) {te : TE} {f : Slots → S → R D} (h : Cmp K Z E te f) : CmpS K Z E (tPar i j (tCons (tCB (rList K) (tCons te tNil)) (tCons (tLst tNil) tNil))) (parW i j f) := fun s0 G0 H0 G H σ ρ s D0 r a => by
  refine h G H σ ρ s _ r.w r.p (AnsS.bindF r a fun d s1 v V1 H1 n1 w1 rd a1 => ?_)
  cases ed : itsD d with
  | none =>
    rw [ed] at a1
    exact a1.elim
  | some ds =>
    rw [ed] at a1
    replace a1 : AnsS K Z E (if fits ds.length = true then .ok (.nx ((ρ.set i (.ow (.ls ds))).set j (.ow (.ls [])))) s1 else .un) s0 G0 H0 V1 D0 := a1
    by_cases z : fits ds.length = true
    · rw [if_pos z] at a1
      obtain ⟨b, vs, rfl, hsq, hs⟩ := itsD_of w1 rd ed
      refine ⟨b, vs, rfl, hsq, fun q hq => ?_⟩
      refine ⟨by decide, fun q2 hq2 => ⟨.ref q, .ref q2, rfl, ?_⟩⟩
      have r1 := r.on n1 w1
      have iq : ¬ inS s1 q := fun y => w1.mr.inH y hq
      have w2 := w1.up (o := .lst vs) hq
      have r2 := r1.on (Nx.up (o := .lst vs) hq) w2
      have nq : q ≠ q2 := fun z => by
        rw [← z, upd_same] at hq2
        cases hq2
      have iq2 : ¬ inS s1 q2 := fun y => w2.mr.inH y hq2
      have w3 := w2.up (o := .lst []) hq2
      have r3 := r2.on (Nx.up (o := .lst []) hq2) w3
      have hq3 : (upd (upd H1 q (.lst vs)) q2 (.lst [])) q = some (.lst vs) := by
        rw [L2.upd_ne nq]
        exact upd_same
      have r4 := r3.own (i := i) hq3 (.ls hs) (w1.sv.free hq) iq (r1.nx.k q (.inl hq)) fun j o ej ef => (r1.fr (.inl hq) ej ef).elim
      have r5 := r4.own (i := j) (u := .lst []) upd_same (HD.ls .nil) (w2.sv.free hq2) iq2 (r2.nx.k q2 (.inl hq2)) fun j2 o ej ef => by
        by_cases e : j2 = i
        · subst e
          have l : j2 < σ.length := by
            have := (List.getElem?_eq_some_iff.mp ej).1
            rw [List.length_set] at this
            rw [r.len]
            exact this
          rw [List.getElem?_set_self l] at ef
          injection ef with ef
          injection ef with ef
          injection ef with ef
          exact absurd ef nq
        · rw [List.getElem?_set_ne (Ne.symm e)] at ej ef
          exact (r2.fr (.inl hq2) ej ef).elim
      exact a1 _ V1 _ (Same.refl _) r5
    · rw [if_neg z] at a1
      exact a1.elim
/-- one's own list is known for good from now on -/
theorem RepF.frz1 {s0 s : S} {G0 H0 G H : Hp} {σ : L2.St} {ρ : Slots} (r : RepF K Z s0 G0 H0 G H σ ρ s) {j : Nat} {es : List D} {c : Addr} {ws : List L2.V} (ej : ρ[j]? = some (.ow (.ls es))) (ef : σ[j]? = some (some (.ref c))) (hc : H c = some (.lst ws)) (hs : DvA K Z G ws es) (gc : G c = none) (ic : ¬ inS s c) :
    RepF K Z s0 G0 H0 (upd G c (.lst ws)) H σ (ρ.set j (.fz (.lst es))) s := by
  have l : j < ρ.length := (List.getElem?_eq_some_iff.mp ej).1
  have n0 := r.new j _ c ej ef
  have sm : Same G (upd G c (.lst ws)) := Same.new gc
  have old : ∀ {k : Nat} {x : Sl}, (ρ.set j (.fz (.lst es)))[k]? = some x → (k = j ∧ x = .fz (.lst es)) ∨ (k ≠ j ∧ ρ[k]? = some x) := fun {k x} e => by
    by_cases z : k = j
    · subst z
      rw [List.getElem?_set_self l] at e
      exact .inl ⟨rfl, (Option.some.inj e).symm⟩
    · rw [List.getElem?_set_ne (Ne.symm z)] at e
      exact .inr ⟨z, e⟩
  refine ⟨r.nx.freeze n0 gc, r.w.freeze hc (fun _ z => by cases z) ic, ⟨fun k d e => ?_, fun k o e => ?_, by rw [List.length_set]; exact r.len⟩, fun k o a e1 e2 => ?_, fun k m o u a n e1 e2 e3 e4 => ?_, by rw [List.length_set]; exact r.len⟩
  · rcases old e with ⟨rfl, y⟩ | ⟨z, e⟩
    · cases y
      exact ⟨.ref c, ef, .lst upd_same (DvA.mono sm _ _ hs)⟩
    · obtain ⟨v, h1, h2⟩ := r.p.fz k d e
      exact ⟨v, h1, Dv.mono sm _ _ h2⟩
  · rcases old e with ⟨rfl, y⟩ | ⟨z, e⟩
    · cases y
    · obtain ⟨a, u, h1, h2, h3, h4, h5⟩ := r.p.ow k o e
      refine ⟨a, u, h1, h2, h3.mono sm, ?_, h5⟩
      rw [L2.upd_ne fun y => r.dis k j o _ a z e ej h1 (by rw [y]; exact ef)]
      exact h4
  · rcases old e1 with ⟨rfl, y⟩ | ⟨z, e⟩
    · cases y
    · exact r.new k o a e e2
  · rcases old e1 with ⟨rfl, y⟩ | ⟨z, e⟩
    · cases y
    · rcases old e2 with ⟨rfl, y⟩ | ⟨z2, f⟩
      · cases y
      · exact r.dis k m o u a n e f e3 e4
/-- x.append(y), y one's own -/
def appO (i j : Nat) (ρ : Slots) (s : S) : R Fl := match ρ[i]?, ρ[j]? with
  | some (.ow (.ls ds)), some (.ow (.ls es)) => if fits (ds.length + 1) = true then .ok (.nx ((ρ.set j (.fz (.lst es))).set i (.ow (.ls (ds ++ [.lst es]))))) s else .un
  | _, _ => .un
theorem cs_appO {i j : Nat} (ij : i ≠ j) : CmpS K Z E (tDrop (tBM K "list" rAppend (tVar i) (tCons (tVar j) tNil))) (appO i j) := fun s0 G0 H0 G H σ ρ s D0 r a => by
  unfold appO at a
  match ei : ρ[i]?, ej : ρ[j]?, a with
  | some (.ow (.ls ds)), some (.ow (.ls es)), a =>
    obtain ⟨b, u, h1, h2, h3, h4, h5⟩ := r.p.ow i _ ei
    obtain ⟨c, u', k1, k2, k3, k4, k5⟩ := r.p.ow j _ ej
    cases h3 with
    | @ls vs _ hs =>
      cases k3 with
      | @ls ws _ ks =>
        by_cases z : fits (ds.length + 1) = true
        · simp only [if_pos z] at a
          have r1 := r.frz1 ej k1 k2 ks k4 k5
          have ei2 : (ρ.set j (.fz (.lst es)))[i]? = some (.ow (.ls ds)) := by
            rw [List.getElem?_set_ne (Ne.symm ij)]
            exact ei
          have sm : Same G (upd G c (.lst ws)) := Same.new k4
          refine ⟨.ref b, h1, .inl ⟨rfl, _, SqL.of h2⟩, .ref c, k1, b, vs, .ref c, rfl, rfl, h2, ?_, ?_⟩
          · rw [hs.len]
            have := fits_lt z
            omega
          · exact a _ _ _ sm (r1.mut ei2 h1 (HD.ls ((DvA.mono sm _ _ hs).snoc (.lst upd_same (DvA.mono sm _ _ ks)))))
        · simp only [if_neg z] at a
          exact a.elim
  | none, _, a => exact a.elim
  | some .no, _, a => exact a.elim
  | some (.fz d), _, a => exact a.elim
  | some (.ow (.is c ns ds)), _, a => exact a.elim
  | some (.ow (.ls ds)), none, a => exact a.elim
  | some (.ow (.ls ds)), some .no, a => exact a.elim
  | some (.ow (.ls ds)), some (.fz d), a => exact a.elim
  | some (.ow (.ls ds)), some (.ow (.is c ns es)), a => exact a.elim
end
end Pp

/-! PyA: _law_allowing_right. -/
namespace W2
open PySem PySem.Spec PyProof.Rows L2 Pg Pf LamX Pp Tab Rul
abbrev s__law_allowing_right : Stmt := top 31
abbrev N__law_allowing_right : List Str := ["_law_m", "_law_net_here", "_law_road", "_law_rows", "_law_due", "_law_told", "_law_k", "_law_n", "_law_spots", "_law_again", "_law_row"]
theorem sc__law_allowing_right : FnScope N__law_allowing_right ["_law_m", "_law_net_here", "_law_road"] (defScope s__law_allowing_right) := ⟨rfl, rfl, rfl, by decide +kernel, rfl, by decide +kernel, by decide +kernel⟩
noncomputable def p__law_allowing_right : Slots → S → R Fl :=
  (seqS (setF 8 (mkL (lcF (rgI rg1F (cnsA (bC F_draw (cnsA (vr 0) (cnsA (kst (.int 5)) nilA))) nilA)) (gN 9) yesT (bC F_draw (cnsA (vr 0) (cnsA (b2 ixF (vr 1) (kst (.int 2))) nilA))) [9])))
    (seqS (asgS (bC tupF (cnsA (bC F_draw (cnsA (vr 0) (cnsA (b2 ixF (vr 1) (kst (.int 0))) nilA))) (cnsA (bC F_draw (cnsA (vr 0) (cnsA (b2 ixF (vr 1) (kst (.int 1))) nilA))) nilA))) (gT 2 (gsC (gN 7) (gsC (gN 6) gs0))))
    (seqS (rowsS 3 10 (b2 ixF (vr 1) (kst (.int 3))) (bC tupleF (cnsA (b1 sSetF (vr 8)) nilA)) (vr 7) (vr 6))
    (seqS (setF 4 (iff (tst (b2 neqF (vr 8) (mkL (litL nilA)))) (bC tupleF (cnsA (mkL (lcF (seqI (vr 3)) (gN 10) yesT (bC tupleF (cnsA (vr 10) nilA)) [10])) nilA)) (mkL (litL (cnsA (kst .non) nilA)))))
    (seqS (ifS (tst (b2 (strF true) (bC reprF (cnsA (fun ρ s => tabR (bC (nF 4 (runS p__law_opened N__law_opened.length)) (cnsA (vr 2) (cnsA (vr 7) (cnsA (vr 6) (cnsA (vr 8) nilA)))) ρ s)) nilA)) (bC reprF (cnsA (vr 4) nilA)))) (retS (kst (.bl false))) nxS)
    (seqS (ifS (tst (b2 eqF (vr 8) (mkL (litL nilA)))) (retS (kst (.bl true))) nxS)
    (seqS (setF 5 (bC (nF 4 (runS p__law_opened N__law_opened.length)) (cnsA (vr 2) (cnsA (vr 7) (cnsA (vr 6) (cnsA (vr 8) nilA))))))
    (retS (b2 eqF (mkL (litL (cnsA (b1 (fldF 0 0) (vr 5)) (cnsA (b1 (fldF 0 1) (vr 5)) (cnsA (b1 (fldF 0 2) (vr 5)) nilA))))) (bC listF (cnsA (slX (vr 1) noO (soO (kst (.int 3)))) nilA)))))))))))
section
variable {P : Program} {w : World} {K : PySem.W.Frag} {mg : Str → Option Value} {base : Heap} {Z : Zn} {f c Pt : Addr} {fd : FuncData}
theorem ok__law_allowing_right (B : Bt mg) (bL : mg "list" = none) (bSe : mg "set" = none) (bSo : mg "sorted" = none) (cD : CalG P w K mg base 3 "_law_draw" spDraw) (cLess : CalD P w K mg base Z 2 "_law_less" 4 (runS p__law_less N__law_less.length)) (cClosed : CalD P w K mg base Z 8 "_law_closed" 4 (runS p__law_closed N__law_closed.length)) (cOpened : CalD P w K mg base Z 8 "_law_opened" 4 (runS p__law_opened N__law_opened.length))
    (pRights : Pr P w K mg base (Z.cl 0) "rights" "_rights") (pLefts : Pr P w K mg base (Z.cl 0) "lefts" "_lefts") (pPlaces : Pr P w K mg base (Z.cl 0) "places" "_places") (pTable : Pr P w K mg base (Z.cl 0) "table" "_table")
    (we : We P w K mg base 2 5 (Z.cl 0) (spEqW K (Z.cl 0)) (spLenW K (Z.cl 0))) (nfC : PySem.W.notFirst K (Z.cl 0) (.ref (Z.cl 0)) = true) (tyC : ∀ {H : Hp} {a dx : Addr} {fs : List (Str × L2.V)}, H a = some (.ins (Z.cl 0) dx fs) → TyX K H (.ref a) (.ref (Z.cl 0)))
    (xf : XfC K (Z.cl 12)) (noV : PySem.W.findIn K (.ref (Z.cl 12)) "value" = some none) (gE : mg "InvalidPlaces" = some (.ref (Z.cl 12))) (emE : PySem.W.exmOne K (.ref (Z.cl 12)) (.ref (Z.cl 12)) = some true)
    {gT : Addr} {ocT dVT kVT docT pmT cdvT ctT : Value} {odT anT : Option Addr} {oslT : Array (Option Value)} (mgT : mg "_law_table_of" = some (.ref gT)) (kpT : PySem.W.keepIn K (.ref gT) = true)
    (lkT : K.lookup gT = some ⟨ocT, odT, .func (PySem.W.fnOf "_law_table_of" "_law_table_of" (defArgs s__law_table_of) (defBody s__law_table_of) (defScope s__law_table_of) dVT kVT docT pmT anT cdvT ctT), oslT⟩) (cdT : PySem.W.codeIn K cdvT "_law_table_of" = true)
    (bdT : Binds K (PySem.W.fnOf "_law_table_of" "_law_table_of" (defArgs s__law_table_of) (defBody s__law_table_of) (defScope s__law_table_of) dVT kVT docT pmT anT cdvT ctT) ["_law_call"] [])
    (F : FunT K mg base Z.T "_law_allowing_right" s__law_allowing_right f fd c Pt) : FnG P w K mg base 11 f fd ["_law_m", "_law_net_here", "_law_road"] (spG K Z 3 (runS p__law_allowing_right N__law_allowing_right.length)) := by
  have nd := sc__law_allowing_right.nd
  refine fnTd F sc__law_allowing_right (by decide) fun A outer s H E hr hgd => ?_
  refine ⟨_, (pss_cons (ps_set (i := 8) nd rfl (Or.inr rfl) (pe_lc (own := [("_law_again", 9)]) rfl nd (pi_range1 rfl B.range (pa_cons (pe_cG cD hr (by decide) hgd rfl (pa_cons (pv 0) (pa_cons pe_int pa_nil))) pa_nil)) (blkOk_by (N := N__law_allowing_right) (sc := defScope s__law_allowing_right) (by decide +kernel)) (fun _ _ _ _ _ => (pg_name (i := 9) nd rfl (Or.inl rfl))) (fun _ _ _ _ _ => pts_nil) (fun _ _ _ _ _ => (pe_cG cD hr (by decide) hgd rfl (pa_cons (pv 0) (pa_cons (pe_ix (show IxR _ (rIx K) from ix_seq) (pv 1) pe_int (fun _ _ => rfl)) pa_nil))))))
    (pss_cons (ps_asg (pe_tup (pa_cons (pe_cG cD hr (by decide) hgd rfl (pa_cons (pv 0) (pa_cons (pe_ix ix_seq (pv 1) pe_int (fun _ _ => rfl)) pa_nil))) (pa_cons (pe_cG cD hr (by decide) hgd rfl (pa_cons (pv 0) (pa_cons (pe_ix ix_seq (pv 1) pe_int (fun _ _ => rfl)) pa_nil))) pa_nil))) (pg_tup rfl (pgs_cons (pg_name (i := 7) nd rfl (Or.inr rfl)) (pgs_cons (pg_name (i := 6) nd rfl (Or.inr rfl)) pgs_nil))))
    (pss_cons (ps_setLc (i := 3) (own := [("_law_row", 10)]) rfl nd rfl rfl (sw_true rfl rfl rfl (by decide +kernel)) (pi_seq (pe_ix ix_seq (pv 1) pe_int (fun _ _ => rfl))) (blkOk_by (N := N__law_allowing_right) (sc := defScope s__law_allowing_right) (by decide +kernel)) (fun _ _ _ _ _ => (pg_name (i := 10) nd rfl (Or.inl rfl))) (fun _ _ _ _ _ => pts_nil) (fun _ _ _ _ _ => (pe_callTy (show CallR _ (.type "list") (rList K) from call_list_of) (by rfl) bL (by decide +kernel) (pa_cons (pv 10) pa_nil))))
    (pss_cons (ps_asg (pe_callTy call_tuple_of (by rfl) B.tuple (by decide +kernel) (pa_cons (pe_callB (cr_sortedSet rfl) (by rfl) bSo (by decide +kernel) (pa_cons (pe_callTy (StA.cr_setLI rfl) (by rfl) bSe (by decide +kernel) (pa_cons (pv 8) pa_nil)) pa_nil)) pa_nil)) (pg_sub (pe_ix ix_seq (pv 3) (pv 7) (fun _ _ => rfl)) (pv 6) set_list))
    (pss_cons (ps_set (i := 4) nd rfl (Or.inl rfl) (pe_ifExp (pt_cmpR (op_neD hr.units) (pv 8) (pe_lst pa_nil) (nomark _)) (pe_callTy call_tuple_of (by rfl) B.tuple (by decide +kernel) (pa_cons (pe_lc (own := [("_law_row", 10)]) rfl nd (pi_seq (pv 3)) (blkOk_by (N := N__law_allowing_right) (sc := defScope s__law_allowing_right) (by decide +kernel)) (fun _ _ _ _ _ => (pg_name (i := 10) nd rfl (Or.inl rfl))) (fun _ _ _ _ _ => pts_nil) (fun _ _ _ _ _ => (pe_callTy (show CallR _ (.type "tuple") (rTuple K) from call_tuple_of) (by rfl) B.tuple (by decide +kernel) (pa_cons (pv 10) pa_nil)))) pa_nil)) (pe_lst (pa_cons pe_non pa_nil))))
    (pss_cons (ps_if (pt_cmpR op_ne (pe_callB (show CallR _ (.builtin "repr") (rReprD _) from call_reprD hgd hr.units) (by rfl) B.repr (by decide +kernel) (pa_cons (pe_lamcall (T := Z.T) (TT := TTab (Z.cl 0) (Z.cl 12)) (a := "_law_call") (Ng := N__law_table_of) (k := 8) (t := fun E => tCall (spD K Z 4 (runS p__law_opened N__law_opened.length)) [] E (tCons (tVar 2) (tCons (tVar 7) (tCons (tVar 6) (tCons (tVar 8) tNil))))) rfl mgT kpT lkT cdT bdT sc__law_table_of rfl (Or.inl rfl) (table_gives xf noV gE emE pTable (hr.mono (by decide))) F.tb rfl F.mem F.uni (hr.mono (by decide)) (lamS_by (by rfl)) rfl (fun _ _ _ _ _ => rfl) (fun A outer s H E f c' hr' => (PP.pe (pp_call cOpened hr' (by decide) (passes_call (takes_of rfl rfl rfl rfl) (fun _ _ _ _ h => h)) rfl ⟨(pa_cons (pv 2) (pa_cons (pv 7) (pa_cons (pv 6) (pa_cons (pv 8) pa_nil)))), (c_cons (c_var 2) (c_cons (c_var 7) (c_cons (c_var 6) (c_cons (c_var 8) c_nil))))⟩)))) pa_nil)) (pe_callB (show CallR _ (.builtin "repr") (rReprD _) from call_reprD hgd hr.units) (by rfl) B.repr (by decide +kernel) (pa_cons (pv 4) pa_nil)) (nomark _)) (pss_one (ps_ret pe_bl)) pss_nil)
    (pss_cons (ps_if (pt_cmpR (op_eqD hr.units) (pv 8) (pe_lst pa_nil) (nomark _)) (pss_one (ps_ret pe_bl)) pss_nil)
    (pss_cons (ps_set (i := 5) nd rfl (Or.inl rfl) (PP.pe (pp_call cOpened hr (by decide) passX0 rfl ⟨(pa_cons (pv 2) (pa_cons (pv 7) (pa_cons (pv 6) (pa_cons (pv 8) pa_nil)))), (c_cons (c_var 2) (c_cons (c_var 7) (c_cons (c_var 6) (c_cons (c_var 8) c_nil))))⟩)))
    (pss_one (ps_ret (pe_cmpR (op_eqD hr.units) (pe_lst (pa_cons (pe_pr pRights hr (by decide) (pv 5)) (pa_cons (pe_pr pLefts hr (by decide) (pv 5)) (pa_cons (pe_pr pPlaces hr (by decide) (pv 5)) pa_nil)))) (pe_callTy call_list_of (by rfl) bL (by decide +kernel) (pa_cons (pe_slice sl_tupA (pv 1) po_none (po_some pe_int)) pa_nil)) (nomark _)))))))))))), ?_⟩
  exact (cs_seq (cs_setF 8 (c_mkL (cl_lc (ci_rng1 (c_cons (c_draw (c_cons (c_var 0) (c_cons (c_c fun _ => .int _) c_nil))) c_nil)) (cg_name 9) (by decide) c_yes (c_draw (c_cons (c_var 0) (c_cons (c_op c2_ix (c_var 1) (c_c fun _ => .int _)) c_nil))))))
    (cs_seq (cs_asg (c_tup (c_cons (c_draw (c_cons (c_var 0) (c_cons (c_op c2_ix (c_var 1) (c_c fun _ => .int _)) c_nil))) (c_cons (c_draw (c_cons (c_var 0) (c_cons (c_op c2_ix (c_var 1) (c_c fun _ => .int _)) c_nil))) c_nil))) (cg_tup (cg_cons (cg_name 7) (cg_cons (cg_name 6) cg_nil))))
    (cs_rowsThen (c_op c2_ix (c_var 1) (c_c fun _ => .int _)) (c_call cC_tuple (c_cons (c_sortset (c_var 8)) c_nil)) (c_var 7) (c_var 6)
    (cs_seq (cs_setF 4 (c_if (c_tT (c_op c2_neD (c_var 8) (c_mkL (cl_lit c_nil)))) (c_call cC_tuple (c_cons (c_mkL (cl_lc (ci_seq (c_var 3)) (cg_name 10) (by decide) c_yes (c_call cC_tuple (c_cons (c_var 10) c_nil)))) c_nil)) (c_mkL (cl_lit (c_cons (c_c fun _ => .non) c_nil)))))
    (cs_seq (cs_if (c_tT (c_op c2_neS (c_call cC_repr (c_cons (c_lamT rfl rfl rfl fun E => c_call' (c_cons (c_var 2) (c_cons (c_var 7) (c_cons (c_var 6) (c_cons (c_var 8) c_nil))))) c_nil)) (c_call cC_repr (c_cons (c_var 4) c_nil)))) (cs_ret (c_c fun _ => .bl _)) cs_next)
    (cs_seq (cs_if (c_tT (c_op c2_eqD (c_var 8) (c_mkL (cl_lit c_nil)))) (cs_ret (c_c fun _ => .bl _)) cs_next)
    (cs_seq (cs_setF 5 (c_call' (c_cons (c_var 2) (c_cons (c_var 7) (c_cons (c_var 6) (c_cons (c_var 8) c_nil))))))
    (cs_ret (c_op c2_eqD (c_mkL (cl_lit (c_cons (c_prop (i := 0) (by decide +kernel) (by rfl) (c_var 5)) (c_cons (c_prop (i := 1) (by decide +kernel) (by rfl) (c_var 5)) (c_cons (c_prop (i := 2) (by decide +kernel) (by rfl) (c_var 5)) c_nil))))) (c_call cC_list (c_cons (c_sl (c_var 1) co_no (co_so (c_c fun _ => .int _))) c_nil)))))))))))
end
end W2

/-! PyB: mirrored, turned, mixed up. -/
namespace W2
open PySem PySem.Spec PyProof.Rows L2 Pg Pf LamX Pp Tab Rul
abbrev s_Way__seen_places : Stmt := inClass (top 11) 16
abbrev N_Way__seen_places : List Str := ["self", "right", "left", "place"]
theorem sc_Way__seen_places : FnScope N_Way__seen_places ["self", "right", "left"] (defScope s_Way__seen_places) := ⟨rfl, rfl, rfl, by decide +kernel, rfl, by decide +kernel, by decide +kernel⟩
def p_Way__seen_places : Slots → S → R Fl :=
  (retS (bC tupleF (cnsA (mkL (lcF (revI (b2 ixF (b2 ixF (b1 (fldF 0 3) (vr 0)) (vr 1)) (vr 2))) (gN 3) yesT (b2 (intF fun i j => .int (i - j)) (b2 (intF fun i j => .int (i - j)) (b1 (fldF 0 2) (vr 0)) (kst (.int 1))) (vr 3)) [3])) nilA)))
abbrev s_Way_mirrored : Stmt := inClass (top 11) 14
abbrev N_Way_mirrored : List Str := ["self", "rows", "left", "right"]
theorem sc_Way_mirrored : FnScope N_Way_mirrored ["self"] (defScope s_Way_mirrored) := ⟨rfl, rfl, rfl, by decide +kernel, rfl, by decide +kernel, by decide +kernel⟩
noncomputable def p_Way_mirrored : Slots → S → R Fl :=
  (seqS (setW 1 (litL nilA))
    (seqS (forS (rgI rg1F (cnsA (b1 (fldF 0 1) (vr 0)) nilA)) (gN 2)
    (appS 1 (bC tupleF (cnsA (mkL (lcF (rgI rg1F (cnsA (b1 (fldF 0 0) (vr 0)) nilA)) (gN 3) yesT (metF 0 3 (runS p_Way__seen_places N_Way__seen_places.length) (vr 0) (cnsA (vr 3) (cnsA (vr 2) nilA))) [3])) nilA))))
    (retS (bC (nF 2 (tell P_with)) (cnsA (b1 (fldF 0 2) (vr 0)) (cnsA (bC tupleF (cnsA (vr 1) nilA)) nilA))))))
abbrev s__law_turned : Stmt := top 25
abbrev N__law_turned : List Str := ["_law_net_here", "_law_rows", "_law_k", "_law_row", "_law_n", "_law_spot"]
theorem sc__law_turned : FnScope N__law_turned ["_law_net_here"] (defScope s__law_turned) := ⟨rfl, rfl, rfl, by decide +kernel, rfl, by decide +kernel, by decide +kernel⟩
def p__law_turned : Slots → S → R Fl :=
  (seqS (setW 1 (litL nilA))
    (seqS (forS (rgI rg1F (cnsA (b2 ixF (vr 0) (kst (.int 1))) nilA)) (gN 2)
    (seqS (setW 3 (litL nilA))
    (seqS (forS (rgI rg1F (cnsA (b2 ixF (vr 0) (kst (.int 0))) nilA)) (gN 4)
    (appS 3 (bC tupleF (cnsA (mkL (lcF (seqI (b1 backF (b2 ixF (b2 ixF (b2 ixF (vr 0) (kst (.int 3))) (vr 4)) (vr 2)))) (gN 5) yesT (b2 (intF fun i j => .int (i - j)) (b2 (intF fun i j => .int (i - j)) (b2 ixF (vr 0) (kst (.int 2))) (kst (.int 1))) (vr 5)) [5])) nilA))))
    (appO 1 3))))
    (retS (bC tupF (cnsA (b2 ixF (vr 0) (kst (.int 1))) (cnsA (b2 ixF (vr 0) (kst (.int 0))) (cnsA (b2 ixF (vr 0) (kst (.int 2))) (cnsA (vr 1) nilA))))))))
section
variable {P : Program} {w : World} {K : PySem.W.Frag} {mg : Str → Option Value} {base : Heap} {Z : Zn} {f c Pt : Addr} {fd : FuncData}
theorem ok_Way__seen_places (B : Bt mg) (bRe : mg "reversed" = none) (cl : Cls K (Z.cl 0)) (nR : NoAttr K (Z.cl 0) "_rights") (nL : NoAttr K (Z.cl 0) "_lefts") (nP : NoAttr K (Z.cl 0) "_places") (nT : NoAttr K (Z.cl 0) "_table") (F : Fun K "_seen_places" "Way._seen_places" s_Way__seen_places f fd) : FnOk P w K mg base (L2.CX P w) 2 f fd ["self", "right", "left"] (spD K Z 3 (runS p_Way__seen_places N_Way__seen_places.length)) := by
  have nd := sc_Way__seen_places.nd
  have naS : ("_seen_places" : Str) ∉ nm 0 := by decide +kernel
  refine fnO F sc_Way__seen_places (by decide) fun cdv A outer s H E hr => ?_
  refine ⟨_, (pss_one (ps_ret (pe_callTy call_tuple_of (by rfl) B.tuple (by decide +kernel) (pa_cons (pe_lc (own := [("place", 3)]) rfl nd (RT.pi_revA (by rfl) bRe (pe_ix ix_seq (pe_ix ix_seq (pe_fld (pv 0) rfl) (pv 1) (fun _ _ => rfl)) (pv 2) (fun _ _ => rfl))) (blkOk_by (N := N_Way__seen_places) (sc := defScope s_Way__seen_places) (by decide +kernel)) (fun _ _ _ _ _ => (pg_name (i := 3) nd rfl (Or.inl rfl))) (fun _ _ _ _ _ => pts_nil) (fun _ _ _ _ _ => (pe_op op_sub (pe_op op_sub (show PE _ _ (tFld K (tVar 0) "_places") from (pe_fld (pv 0) rfl)) pe_int) (pv 3)))) pa_nil)))), ?_⟩
  exact (cs_ret (c_call cC_tuple (c_cons (c_mkL (cl_lc (ci_rev (c_op c2_ix (c_op c2_ix (c_fld (i := 3) cl nT (by decide +kernel) (by rfl) (c_var 0)) (c_var 1)) (c_var 2))) (cg_name 3) (by decide) c_yes (c_op c2_sub (c_op c2_sub (c_fld (i := 2) cl nP (by decide +kernel) (by rfl) (c_var 0)) (c_c fun _ => .int _)) (c_var 3)))) c_nil)))
theorem ok_Way_mirrored (B : Bt mg) (bRe : mg "reversed" = none) (cl : Cls K (Z.cl 0)) (nR : NoAttr K (Z.cl 0) "_rights") (nL : NoAttr K (Z.cl 0) "_lefts") (nP : NoAttr K (Z.cl 0) "_places") (nT : NoAttr K (Z.cl 0) "_table")
    (mSeen : MetD P w K mg base Z 2 0 "_seen_places" 3 (runS p_Way__seen_places N_Way__seen_places.length)) (cWith : CalD P w K mg base Z 6 "way_with" 2 (tell P_with)) (F : Fun K "mirrored" "Way.mirrored" s_Way_mirrored f fd) : FnOk P w K mg base (L2.CX P w) 7 f fd ["self"] (spD K Z 1 (runS p_Way_mirrored N_Way_mirrored.length)) := by
  have nd := sc_Way_mirrored.nd
  have naS : ("_seen_places" : Str) ∉ nm 0 := by decide +kernel
  refine fnO F sc_Way_mirrored (by decide) fun cdv A outer s H E hr => ?_
  refine ⟨_, (pss_cons (ps_set (i := 1) nd rfl (Or.inl rfl) (pe_lst pa_nil))
    (pss_cons (ps_for (passes_of rfl) rfl (pi_range1 rfl B.range (pa_cons (pe_fld (pv 0) rfl) pa_nil)) (pg_name (i := 2) nd rfl (Or.inr rfl))
    (pss_one (ps_expr (pe_bm PySem.F.plainAttrs_list PySem.F.slot_list_append PySem.F.type_list_append mt_append (pv 1) (pa_cons (pe_callTy call_tuple_of (by rfl) B.tuple (by decide +kernel) (pa_cons (pe_lc (own := [("right", 3)]) rfl nd (pi_range1 rfl B.range (pa_cons (pe_fld (pv 0) rfl) pa_nil)) (blkOk_by (N := N_Way_mirrored) (sc := defScope s_Way_mirrored) (by decide +kernel)) (fun _ _ _ _ _ => (pg_name (i := 3) nd rfl (Or.inl rfl))) (fun _ _ _ _ _ => pts_nil) (fun _ _ _ _ _ => (show PE _ _ (tMeth (Z.cl 0) "_seen_places" (spD K Z 3 (runS p_Way__seen_places N_Way__seen_places.length)) [] E0 (tVar 0) (tCons (tVar 3) (tCons (tVar 2) tNil))) from (PP.pe (pp_meth mSeen hr (by decide) passX0 ⟨(pv 0), (c_var 0)⟩ ⟨(pa_cons (pv 3) (pa_cons (pv 2) pa_nil)), (c_cons (c_var 3) (c_cons (c_var 2) c_nil))⟩))))) pa_nil)) pa_nil)))))
    (pss_one (ps_ret (PP.pe (pp_call cWith hr (by decide) (passes_call (takes_of rfl rfl rfl rfl) (fun _ _ _ _ h => h)) rfl ⟨(pa_cons (pe_fld (pv 0) rfl) (pa_cons (pe_callTy call_tuple_of (by rfl) B.tuple (by decide +kernel) (pa_cons (pv 1) pa_nil)) pa_nil)), (c_cons (c_fld (i := 2) cl nP (by decide +kernel) (by rfl) (c_var 0)) (c_cons (c_call cC_tuple (c_cons (c_var 1) c_nil)) c_nil))⟩)))))), ?_⟩
  exact (cs_seq (cs_setW 1 (cl_lit c_nil))
    (cs_seq (cs_for (ci_rng1 (c_cons (c_fld (i := 1) cl nL (by decide +kernel) (by rfl) (c_var 0)) c_nil)) (cg_name 2)
    (cs_app 1 (c_call cC_tuple (c_cons (c_mkL (cl_lc (ci_rng1 (c_cons (c_fld (i := 0) cl nR (by decide +kernel) (by rfl) (c_var 0)) c_nil)) (cg_name 3) (by decide) c_yes (c_meth naS (c_var 0) (c_cons (c_var 3) (c_cons (c_var 2) c_nil))))) c_nil))))
    (cs_ret (c_call' (c_cons (c_fld (i := 2) cl nP (by decide +kernel) (by rfl) (c_var 0)) (c_cons (c_call cC_tuple (c_cons (c_var 1) c_nil)) c_nil))))))
theorem ok__law_turned (B : Bt mg) (F : Fun K "_law_turned" "_law_turned" s__law_turned f fd) : FnOk P w K mg base (L2.CX P w) 2 f fd ["_law_net_here"] (spD K Z 1 (runS p__law_turned N__law_turned.length)) := by
  have nd := sc__law_turned.nd
  have naS : ("_seen_places" : Str) ∉ nm 0 := by decide +kernel
  refine fnO F sc__law_turned (by decide) fun cdv A outer s H E hr => ?_
  refine ⟨_, (pss_cons (ps_set (i := 1) nd rfl (Or.inl rfl) (pe_lst pa_nil))
    (pss_cons (ps_for (passes_of rfl) rfl (pi_range1 rfl B.range (pa_cons (pe_ix ix_seq (pv 0) pe_int (fun _ _ => rfl)) pa_nil)) (pg_name (i := 2) nd rfl (Or.inl rfl))
    (pss_cons (ps_set (i := 3) nd rfl (Or.inl rfl) (pe_lst pa_nil))
    (pss_cons (ps_for (passes_of rfl) rfl (pi_range1 rfl B.range (pa_cons (pe_ix ix_seq (pv 0) pe_int (fun _ _ => rfl)) pa_nil)) (pg_name (i := 4) nd rfl (Or.inl rfl))
    (pss_one (ps_expr (pe_bm PySem.F.plainAttrs_list PySem.F.slot_list_append PySem.F.type_list_append mt_append (pv 3) (pa_cons (pe_callTy call_tuple_of (by rfl) B.tuple (by decide +kernel) (pa_cons (pe_lc (own := [("_law_spot", 5)]) rfl nd (pi_seq (StB.pe_back (pe_ix ix_seq (pe_ix ix_seq (pe_ix ix_seq (pv 0) pe_int (fun _ _ => rfl)) (pv 4) (fun _ _ => rfl)) (pv 2) (fun _ _ => rfl)))) (blkOk_by (N := N__law_turned) (sc := defScope s__law_turned) (by decide +kernel)) (fun _ _ _ _ _ => (pg_name (i := 5) nd rfl (Or.inl rfl))) (fun _ _ _ _ _ => pts_nil) (fun _ _ _ _ _ => (pe_op op_sub (pe_op op_sub (pe_ix (show IxR _ (rIx K) from ix_seq) (pv 0) pe_int (fun _ _ => rfl)) pe_int) (pv 5)))) pa_nil)) pa_nil)))))
    (pss_one (ps_expr (pe_bm PySem.F.plainAttrs_list PySem.F.slot_list_append PySem.F.type_list_append mt_append (pv 1) (pa_cons (pv 3) pa_nil)))))))
    (pss_one (ps_ret (pe_tup (pa_cons (pe_ix ix_seq (pv 0) pe_int (fun _ _ => rfl)) (pa_cons (pe_ix ix_seq (pv 0) pe_int (fun _ _ => rfl)) (pa_cons (pe_ix ix_seq (pv 0) pe_int (fun _ _ => rfl)) (pa_cons (pv 1) pa_nil))))))))), ?_⟩
  exact (cs_seq (cs_setW 1 (cl_lit c_nil))
    (cs_seq (cs_for (ci_rng1 (c_cons (c_op c2_ix (c_var 0) (c_c fun _ => .int _)) c_nil)) (cg_name 2)
    (cs_seq (cs_setW 3 (cl_lit c_nil))
    (cs_seq (cs_for (ci_rng1 (c_cons (c_op c2_ix (c_var 0) (c_c fun _ => .int _)) c_nil)) (cg_name 4)
    (cs_app 3 (c_call cC_tuple (c_cons (c_mkL (cl_lc (ci_seq (c_back (c_op c2_ix (c_op c2_ix (c_op c2_ix (c_var 0) (c_c fun _ => .int _)) (c_var 4)) (c_var 2)))) (cg_name 5) (by decide) c_yes (c_op c2_sub (c_op c2_sub (c_op c2_ix (c_var 0) (c_c fun _ => .int _)) (c_c fun _ => .int _)) (c_var 5)))) c_nil))))
    (cs_appO (i := 1) (j := 3) (by decide)))))
    (cs_ret (c_tup (c_cons (c_op c2_ix (c_var 0) (c_c fun _ => .int _)) (c_cons (c_op c2_ix (c_var 0) (c_c fun _ => .int _)) (c_cons (c_op c2_ix (c_var 0) (c_c fun _ => .int _)) (c_cons (c_var 1) c_nil))))))))
end
end W2

/-! PyC: ways made; _law_mirrored_right, _law_mixed_up. -/
namespace W2
open PySem PySem.Spec PyProof.Rows L2 Pg Pf LamX Pp Tab Rul
def F_wayN (ds : List D) (s : S) : R D := match ds with
  | [.int r, .int l, .int k] => if 1 ≤ r ∧ r ≤ 6 ∧ 1 ≤ l ∧ l ≤ 6 ∧ 1 ≤ k ∧ k ≤ 12 then .ok (wayD r.toNat l.toNat k.toNat fun _ _ => rangeI k) s else .un
  | _ => .un
section
variable {K : PySem.W.Frag} {Z : Zn} {E : XK} {C : Addr} {ua : TA} {fa : Slots → S → R (List D)}
theorem c_mkWay (hC : Z.cl 0 = C) (ha : CmpA K Z E ua fa) : Cmp K Z E (tMk C (spInit K C) ua) (bC F_wayN fa) := fun V H σ ρ s Q w p a =>
  ha V H σ ρ s _ w p (Ans.bind a fun ds s1 vs V1 H1 n1 w1 r1 a1 => by
    unfold F_wayN at a1
    split at a1
    · rename_i ri li ki
      match r1 with
      | .cons (.int _) (.cons (.int _) (.cons (.int _) .nil)) =>
        by_cases e : 1 ≤ ri ∧ ri ≤ 6 ∧ 1 ≤ li ∧ li ≤ 6 ∧ 1 ≤ ki ∧ ki ≤ 12
        · rw [if_pos e] at a1
          obtain ⟨r, rfl⟩ : ∃ n : Nat, ri = n := ⟨ri.toNat, by omega⟩
          obtain ⟨l, rfl⟩ : ∃ n : Nat, li = n := ⟨li.toNat, by omega⟩
          obtain ⟨k, rfl⟩ : ∃ n : Nat, ki = n := ⟨ki.toNat, by omega⟩
          simp only [Int.toNat_natCast] at a1
          refine mk_way w1.sv (by omega) (by omega) (by omega) (by omega) (by omega) (by omega) fun x G' H' f W => ?_
          obtain ⟨V', n, w', x'⟩ := fut_wd w1 f
          exact a1 _ V' H' n w' (WayAt.dv hC (W.ext x'))
        · rw [if_neg e] at a1
          exact a1.elim
    · exact a1.elim)
end
abbrev s__law_mirrored_right : Stmt := top 32
abbrev N__law_mirrored_right : List Str := ["_law_net_here", "_law_road", "_law_far", "_law_due", "_law_row"]
theorem sc__law_mirrored_right : FnScope N__law_mirrored_right ["_law_net_here", "_law_road"] (defScope s__law_mirrored_right) := ⟨rfl, rfl, rfl, by decide +kernel, rfl, by decide +kernel, by decide +kernel⟩
noncomputable def p__law_mirrored_right : Slots → S → R Fl :=
  (seqS (setF 2 (bC (nF 1 (runS p__law_turned N__law_turned.length)) (cnsA (vr 0) nilA)))
    (seqS (setF 3 (bC tupleF (cnsA (mkL (lcF (seqI (b2 ixF (vr 2) (kst (.int 3)))) (gN 4) yesT (bC tupleF (cnsA (vr 4) nilA)) [4])) nilA)))
    (seqS (ifS (bor (tst (b2 (strF true) (bC reprF (cnsA (b1 (fldF 0 3) (metF 0 1 (runS p_Way_mirrored N_Way_mirrored.length) (vr 1) nilA)) nilA)) (bC reprF (cnsA (vr 3) nilA)))) (tst (b2 (fun x y s => tell (P_eqw true) [x, y] s) (metF 0 1 (runS p_Way_mirrored N_Way_mirrored.length) (metF 0 1 (runS p_Way_mirrored N_Way_mirrored.length) (vr 1) nilA) nilA) (vr 1)))) (retS (kst (.bl false))) nxS)
    (retS (b2 eqF (mkL (litL (cnsA (b1 (fldF 0 0) (metF 0 1 (runS p_Way_mirrored N_Way_mirrored.length) (vr 1) nilA)) (cnsA (b1 (fldF 0 1) (metF 0 1 (runS p_Way_mirrored N_Way_mirrored.length) (vr 1) nilA)) (cnsA (b1 (fldF 0 2) (metF 0 1 (runS p_Way_mirrored N_Way_mirrored.length) (vr 1) nilA)) nilA))))) (bC listF (cnsA (slX (vr 2) noO (soO (kst (.int 3)))) nilA)))))))
abbrev s__law_mixed_up : Stmt := top 21
abbrev N__law_mixed_up : List Str := ["_law_m", "_law_things", "_law_stock", "_law_found", "_law_n"]
theorem sc__law_mixed_up : FnScope N__law_mixed_up ["_law_m", "_law_things"] (defScope s__law_mixed_up) := ⟨rfl, rfl, rfl, by decide +kernel, rfl, by decide +kernel, by decide +kernel⟩
noncomputable def p__law_mixed_up : Slots → S → R Fl :=
  (seqS (parW 2 3 (vr 1))
    (seqS (forS (rgI rg1F (cnsA (lenO 2) nilA)) (gN 4)
    (popS 3 2 (bC F_draw (cnsA (vr 0) (cnsA (lenO 2) nilA)))))
    (retS (vr 3))))
section
variable {P : Program} {w : World} {K : PySem.W.Frag} {mg : Str → Option Value} {base : Heap} {Z : Zn} {f c Pt : Addr} {fd : FuncData}
theorem ok__law_mirrored_right (B : Bt mg) (bL : mg "list" = none) (cTurned : CalD P w K mg base Z 2 "_law_turned" 1 (runS p__law_turned N__law_turned.length)) (mMir : MetD P w K mg base Z 7 0 "mirrored" 1 (runS p_Way_mirrored N_Way_mirrored.length))
    (pRights : Pr P w K mg base (Z.cl 0) "rights" "_rights") (pLefts : Pr P w K mg base (Z.cl 0) "lefts" "_lefts") (pPlaces : Pr P w K mg base (Z.cl 0) "places" "_places") (pTable : Pr P w K mg base (Z.cl 0) "table" "_table")
    (we : We P w K mg base 2 5 (Z.cl 0) (spEqW K (Z.cl 0)) (spLenW K (Z.cl 0))) (nfC : PySem.W.notFirst K (Z.cl 0) (.ref (Z.cl 0)) = true) (tyC : ∀ {H : Hp} {a dx : Addr} {fs : List (Str × L2.V)}, H a = some (.ins (Z.cl 0) dx fs) → TyX K H (.ref a) (.ref (Z.cl 0)))
    (F : Fun K "_law_mirrored_right" "_law_mirrored_right" s__law_mirrored_right f fd) : FnG P w K mg base 10 f fd ["_law_net_here", "_law_road"] (spG K Z 2 (runS p__law_mirrored_right N__law_mirrored_right.length)) := by
  have nd := sc__law_mirrored_right.nd
  have naM : ("mirrored" : Str) ∉ nm 0 := by decide +kernel
  refine fnGd F sc__law_mirrored_right (by decide) fun cdv A outer s H E hr hgd => ?_
  refine ⟨_, (pss_cons (ps_set (i := 2) nd rfl (Or.inl rfl) (PP.pe (pp_call cTurned hr (by decide) passX0 rfl ⟨(pa_cons (pv 0) pa_nil), (c_cons (c_var 0) c_nil)⟩)))
    (pss_cons (ps_set (i := 3) nd rfl (Or.inl rfl) (pe_callTy call_tuple_of (by rfl) B.tuple (by decide +kernel) (pa_cons (pe_lc (own := [("_law_row", 4)]) rfl nd (pi_seq (pe_ix ix_seq (pv 2) pe_int (fun _ _ => rfl))) (blkOk_by (N := N__law_mirrored_right) (sc := defScope s__law_mirrored_right) (by decide +kernel)) (fun _ _ _ _ _ => (pg_name (i := 4) nd rfl (Or.inl rfl))) (fun _ _ _ _ _ => pts_nil) (fun _ _ _ _ _ => (pe_callTy (show CallR _ (.type "tuple") (rTuple K) from call_tuple_of) (by rfl) B.tuple (by decide +kernel) (pa_cons (pv 4) pa_nil)))) pa_nil)))
    (pss_cons (ps_if (PW.pt (pw_or (pt_cmpR op_ne (pe_callB (show CallR _ (.builtin "repr") (rReprD _) from call_reprD hgd hr.units) (by rfl) B.repr (by decide +kernel) (pa_cons (pe_pr pTable hr (by decide) (PP.pe (pp_meth0 mMir hr (by decide) passX0 ⟨(pv 1), (c_var 1)⟩))) pa_nil)) (pe_callB (show CallR _ (.builtin "repr") (rReprD _) from call_reprD hgd hr.units) (by rfl) B.repr (by decide +kernel) (pa_cons (pv 3) pa_nil)) (nomark _)) (pw_or1 (pt_cmpR (op_neW we hr (by decide)) (PP.pe (pp_meth0 mMir hr (by decide) passX0 ⟨(PP.pe (pp_meth0 mMir hr (by decide) passX0 ⟨(pv 1), (c_var 1)⟩)), (c_meth naM (c_var 1) c_nil)⟩)) (pv 1) (nomark _))))) (pss_one (ps_ret pe_bl)) pss_nil)
    (pss_one (ps_ret (pe_cmpR (op_eqD hr.units) (pe_lst (pa_cons (pe_pr pRights hr (by decide) (PP.pe (pp_meth0 mMir hr (by decide) passX0 ⟨(pv 1), (c_var 1)⟩))) (pa_cons (pe_pr pLefts hr (by decide) (PP.pe (pp_meth0 mMir hr (by decide) passX0 ⟨(pv 1), (c_var 1)⟩))) (pa_cons (pe_pr pPlaces hr (by decide) (PP.pe (pp_meth0 mMir hr (by decide) passX0 ⟨(pv 1), (c_var 1)⟩))) pa_nil)))) (pe_callTy call_list_of (by rfl) bL (by decide +kernel) (pa_cons (pe_slice sl_tupA (pv 2) po_none (po_some pe_int)) pa_nil)) (nomark _))))))), ?_⟩
  exact (cs_seq (cs_setF 2 (c_call' (c_cons (c_var 0) c_nil)))
    (cs_seq (cs_setF 3 (c_call cC_tuple (c_cons (c_mkL (cl_lc (ci_seq (c_op c2_ix (c_var 2) (c_c fun _ => .int _))) (cg_name 4) (by decide) c_yes (c_call cC_tuple (c_cons (c_var 4) c_nil)))) c_nil)))
    (cs_seq (cs_if (c_or (c_tT (c_op c2_neS (c_call cC_repr (c_cons (c_prop (i := 3) (by decide +kernel) (by rfl) (c_meth naM (c_var 1) c_nil)) c_nil)) (c_call cC_repr (c_cons (c_var 3) c_nil)))) (c_tT (c_op (c2_eqw rfl true nfC tyC) (c_meth naM (c_meth naM (c_var 1) c_nil) c_nil) (c_var 1)))) (cs_ret (c_c fun _ => .bl _)) cs_next)
    (cs_ret (c_op c2_eqD (c_mkL (cl_lit (c_cons (c_prop (i := 0) (by decide +kernel) (by rfl) (c_meth naM (c_var 1) c_nil)) (c_cons (c_prop (i := 1) (by decide +kernel) (by rfl) (c_meth naM (c_var 1) c_nil)) (c_cons (c_prop (i := 2) (by decide +kernel) (by rfl) (c_meth naM (c_var 1) c_nil)) c_nil))))) (c_call cC_list (c_cons (c_sl (c_var 2) co_no (co_so (c_c fun _ => .int _))) c_nil)))))))
theorem ok__law_mixed_up (B : Bt mg) (bL : mg "list" = none) (cD : CalG P w K mg base 3 "_law_draw" spDraw)
    (F : Fun K "_law_mixed_up" "_law_mixed_up" s__law_mixed_up f fd) : FnG P w K mg base 10 f fd ["_law_m", "_law_things"] (spG K Z 2 (runS p__law_mixed_up N__law_mixed_up.length)) := by
  have nd := sc__law_mixed_up.nd
  have naM : ("mirrored" : Str) ∉ nm 0 := by decide +kernel
  refine fnGd F sc__law_mixed_up (by decide) fun cdv A outer s H E hr hgd => ?_
  refine ⟨_, (pss_cons (ps_par (i := 2) (j := 3) rfl nd rfl rfl (by decide) rfl rfl (pa_cons (pe_callTy call_list_of (by rfl) bL (by decide +kernel) (pa_cons (pv 1) pa_nil)) (pa_cons (pe_lst pa_nil) pa_nil)) rfl)
    (pss_cons (ps_for PassesOwn.never rfl (pi_range1 rfl B.range (pa_cons (pe_callB call_len_seq (by rfl) B.len PySem.boot_len (pa_cons (pv 2) pa_nil)) pa_nil)) (pg_name (i := 4) nd rfl (Or.inl rfl))
    (pss_one (ps_expr (pe_bm PySem.F.plainAttrs_list PySem.F.slot_list_append PySem.F.type_list_append mt_append (pv 3) (pa_cons (pe_bm PySem.F.plainAttrs_list PySem.F.slot_list_pop PySem.F.type_list_pop mt_popAt (pv 2) (pa_cons (pe_cG cD hr (by decide) hgd rfl (pa_cons (pv 0) (pa_cons (pe_callB call_len_seq (by rfl) B.len PySem.boot_len (pa_cons (pv 2) pa_nil)) pa_nil))) pa_nil)) pa_nil)))))
    (pss_one (ps_ret (pv 3))))), ?_⟩
  exact (cs_seq (cs_parW (by decide) (c_var 1))
    (cs_seq (cs_for (ci_rng1 (c_cons (c_lenO 2) c_nil)) (cg_name 4)
    (cs_pop (by decide) (c_draw (c_cons (c_var 0) (c_cons (c_lenO 2) c_nil)))))
    (cs_ret (c_var 3))))
end
end W2

/-! PyD: _law_many_right. -/
namespace W2
open PySem PySem.Spec PyProof.Rows L2 Pg Pf LamX Pp Tab Rul
abbrev s__law_many_right : Stmt := top 34
abbrev N__law_many_right : List Str := ["_law_m", "_law_full", "_law_row", "_law_told", "_law_a", "_law_b", "_law_c", "_law_d", "_law_e", "_law_f", "_law_g", "_law_h", "_law_i", "_law_j", "_law_k", "_law_last", "_law_road"]
theorem sc__law_many_right : FnScope N__law_many_right ["_law_m"] (defScope s__law_many_right) := ⟨rfl, rfl, rfl, by decide +kernel, rfl, by decide +kernel, by decide +kernel⟩
noncomputable def p__law_many_right : Slots → S → R Fl :=
  (seqS (asgS (bC tupF (cnsA (bC F_wayN (cnsA (kst (.int 2)) (cnsA (kst (.int 3)) (cnsA (kst (.int 12)) nilA)))) (cnsA (b1 tRgF (kst (.int 12))) nilA))) (gT 2 (gsC (gN 16) (gsC (gN 1) gs0))))
    (seqS (setF 2 (bC (nF 2 (neF (runS p__law_mixed_up N__law_mixed_up.length))) (cnsA (vr 0) (cnsA (bC listF (cnsA (vr 1) nilA)) nilA))))
    (seqS (asgS (slLX (vr 2) noO (soO (kst (.int 6)))) (gTL 6 (gsC (gN 4) (gsC (gN 5) (gsC (gN 6) (gsC (gN 7) (gsC (gN 8) (gsC (gN 9) gs0))))))))
    (seqS (asgS (slLX (vr 2) (soO (kst (.int 6))) noO) (gTL 6 (gsC (gN 10) (gsC (gN 11) (gsC (gN 12) (gsC (gN 13) (gsC (gN 14) (gsC (gN 15) gs0))))))))
    (seqS (setF 3 (starF 0 4 11 1 0 gL (runS p_Way_closing N_Way_closing.length) (vr 16) (cnsA (vr 4) (cnsA (vr 5) (cnsA (vr 6) (cnsA (vr 7) (cnsA (vr 8) (cnsA (vr 9) (cnsA (vr 10) (cnsA (vr 11) (cnsA (vr 12) (cnsA (vr 13) (cnsA (vr 14) nilA))))))))))) (cnsA (kst (.int 1)) nilA)))
    (seqS (ifS (tst (b2 neqF (b1 (fldF 0 3) (vr 3)) (b2 repT (bC tupF (cnsA (bC tupF (cnsA (vr 1) (cnsA (bC tupF (cnsA (vr 15) nilA)) (cnsA (vr 1) nilA)))) nilA)) (kst (.int 2))))) (retS (kst (.bl false))) nxS)
    (seqS (setF 3 (starF 0 4 11 0 2 gT2 (runS p_Way_allowing N_Way_allowing.length) (vr 16) (cnsA (kst (.int 1)) (cnsA (kst (.int 2)) (cnsA (vr 4) (cnsA (vr 5) (cnsA (vr 6) (cnsA (vr 7) (cnsA (vr 7) (cnsA (vr 8) (cnsA (vr 9) (cnsA (vr 9) (cnsA (vr 10) nilA))))))))))) nilA))
    (seqS (ifS (tst (b2 neqF (mkL (litL (cnsA (metF 0 3 (tell P_allow) (vr 3) (cnsA (kst (.int 1)) (cnsA (kst (.int 2)) nilA))) (cnsA (metF 0 3 (tell P_allow) (vr 3) (cnsA (kst (.int 0)) (cnsA (kst (.int 2)) nilA))) nilA)))) (mkL (litL (cnsA (bC tupleF (cnsA (b1 sLstF (mkL (litL (cnsA (vr 4) (cnsA (vr 5) (cnsA (vr 6) (cnsA (vr 7) (cnsA (vr 8) (cnsA (vr 9) (cnsA (vr 10) nilA)))))))))) nilA)) (cnsA (vr 1) nilA)))))) (retS (kst (.bl false))) nxS)
    (seqS (ifS (tst (b2 (fun x y s => tell (P_eqw true) [x, y] s) (starF 0 4 14 0 2 gT2 (runS p_Way_allowing N_Way_allowing.length) (vr 16) (cnsA (kst (.int 0)) (cnsA (kst (.int 0)) (cnsA (vr 4) (cnsA (vr 5) (cnsA (vr 6) (cnsA (vr 7) (cnsA (vr 8) (cnsA (vr 9) (cnsA (vr 10) (cnsA (vr 11) (cnsA (vr 12) (cnsA (vr 13) (cnsA (vr 14) (cnsA (vr 15) nilA)))))))))))))) nilA) (vr 16))) (retS (kst (.bl false))) nxS)
    (retS (b2 eqF (fun ρ s => tabR (starF 0 4 12 0 0 gN0 (runS p_Way_closing N_Way_closing.length) (vr 16) (cnsA (vr 4) (cnsA (vr 5) (cnsA (vr 6) (cnsA (vr 7) (cnsA (vr 8) (cnsA (vr 9) (cnsA (vr 10) (cnsA (vr 11) (cnsA (vr 12) (cnsA (vr 13) (cnsA (vr 14) (cnsA (vr 15) nilA)))))))))))) nilA ρ s)) (mkL (litL (cnsA (kst .non) nilA))))))))))))))
section
variable {P : Program} {w : World} {K : PySem.W.Frag} {mg : Str → Option Value} {base : Heap} {Z : Zn} {f c Pt : Addr} {fd : FuncData}
theorem ok__law_many_right (B : Bt mg) (bL : mg "list" = none) (bSe : mg "set" = none) (bSo : mg "sorted" = none) (cD : CalG P w K mg base 3 "_law_draw" spDraw) (cLess : CalD P w K mg base Z 2 "_law_less" 4 (runS p__law_less N__law_less.length)) (cClosed : CalD P w K mg base Z 8 "_law_closed" 4 (runS p__law_closed N__law_closed.length)) (cOpened : CalD P w K mg base Z 8 "_law_opened" 4 (runS p__law_opened N__law_opened.length))
    (pRights : Pr P w K mg base (Z.cl 0) "rights" "_rights") (pLefts : Pr P w K mg base (Z.cl 0) "lefts" "_lefts") (pPlaces : Pr P w K mg base (Z.cl 0) "places" "_places") (pTable : Pr P w K mg base (Z.cl 0) "table" "_table")
    (we : We P w K mg base 2 5 (Z.cl 0) (spEqW K (Z.cl 0)) (spLenW K (Z.cl 0))) (nfC : PySem.W.notFirst K (Z.cl 0) (.ref (Z.cl 0)) = true) (tyC : ∀ {H : Hp} {a dx : Addr} {fs : List (Str × L2.V)}, H a = some (.ins (Z.cl 0) dx fs) → TyX K H (.ref a) (.ref (Z.cl 0)))
    (xf : XfC K (Z.cl 12)) (noV : PySem.W.findIn K (.ref (Z.cl 12)) "value" = some none) (gE : mg "InvalidPlaces" = some (.ref (Z.cl 12))) (emE : PySem.W.exmOne K (.ref (Z.cl 12)) (.ref (Z.cl 12)) = some true)
    {gT : Addr} {ocT dVT kVT docT pmT cdvT ctT : Value} {odT anT : Option Addr} {oslT : Array (Option Value)} (mgT : mg "_law_table_of" = some (.ref gT)) (kpT : PySem.W.keepIn K (.ref gT) = true)
    (lkT : K.lookup gT = some ⟨ocT, odT, .func (PySem.W.fnOf "_law_table_of" "_law_table_of" (defArgs s__law_table_of) (defBody s__law_table_of) (defScope s__law_table_of) dVT kVT docT pmT anT cdvT ctT), oslT⟩) (cdT : PySem.W.codeIn K cdvT "_law_table_of" = true)
    (bdT : Binds K (PySem.W.fnOf "_law_table_of" "_law_table_of" (defArgs s__law_table_of) (defBody s__law_table_of) (defScope s__law_table_of) dVT kVT docT pmT anT cdvT ctT) ["_law_call"] [])
    {fC fA DC : Addr} {docC pmC cdC ctC kvA docA pmA cdA ctA : Value} {anC anA : Option Addr} (mClo : MetS P w K mg base Z 7 0 "closing" psC (runS p_Way_closing N_Way_closing.length) fC (fdC .none (.ref DC) docC pmC anC cdC ctC)) (mAllw : MetS P w K mg base Z 7 0 "allowing" psC (runS p_Way_allowing N_Way_allowing.length) fA (fdA .none kvA docA pmA anA cdA ctA))
    (kwR : PySem.W.nsIn K DC "right" = some (some .none)) (kwL : PySem.W.nsIn K DC "left" = some (some .none))
    (mkW : Ma P w K mg base 4 "Way" (Z.cl 0) (spInit K (Z.cl 0))) (mAl : MetD P w K mg base Z 4 0 "allowed" 3 (tell P_allow)) (cMix : CalG P w K mg base 10 "_law_mixed_up" (spG K Z 2 (runS p__law_mixed_up N__law_mixed_up.length)))
    (F : FunT K mg base Z.T "_law_many_right" s__law_many_right f fd c Pt) : FnG P w K mg base 11 f fd ["_law_m"] (spG K Z 1 (runS p__law_many_right N__law_many_right.length)) := by
  have nd := sc__law_many_right.nd
  have naC : ("closing" : Str) ∉ nm 0 := by decide +kernel
  have naA : ("allowing" : Str) ∉ nm 0 := by decide +kernel
  have naW : ("allowed" : Str) ∉ nm 0 := by decide +kernel
  refine fnTd F sc__law_many_right (by decide) fun A outer s H E hr hgd => ?_
  refine ⟨_, (pss_cons (ps_asg (pe_tup (pa_cons (pe_ma mkW hr (by decide) rfl (pa_cons pe_int (pa_cons pe_int (pa_cons pe_int pa_nil)))) (pa_cons (pe_tupRg rfl (by rfl) B.tuple (prg_1 (by rfl) B.range pe_int)) pa_nil))) (pg_tup rfl (pgs_cons (pg_name (i := 16) nd rfl (Or.inr rfl)) (pgs_cons (pg_name (i := 1) nd rfl (Or.inl rfl)) pgs_nil))))
    (pss_cons (ps_set (i := 2) nd rfl (Or.inl rfl) (pe_cG cMix hr (by decide) hgd rfl (pa_cons (pv 0) (pa_cons (pe_callTy call_list_of (by rfl) bL (by decide +kernel) (pa_cons (pv 1) pa_nil)) pa_nil))))
    (pss_cons (ps_asg (pe_slice sl_list (pv 2) po_none (po_some pe_int)) (pg_lst rfl (pgs_cons (pg_name (i := 4) nd rfl (Or.inr rfl)) (pgs_cons (pg_name (i := 5) nd rfl (Or.inr rfl)) (pgs_cons (pg_name (i := 6) nd rfl (Or.inr rfl)) (pgs_cons (pg_name (i := 7) nd rfl (Or.inr rfl)) (pgs_cons (pg_name (i := 8) nd rfl (Or.inr rfl)) (pgs_cons (pg_name (i := 9) nd rfl (Or.inr rfl)) pgs_nil))))))))
    (pss_cons (ps_asg (pe_slice sl_list (pv 2) (po_some pe_int) po_none) (pg_lst rfl (pgs_cons (pg_name (i := 10) nd rfl (Or.inr rfl)) (pgs_cons (pg_name (i := 11) nd rfl (Or.inr rfl)) (pgs_cons (pg_name (i := 12) nd rfl (Or.inr rfl)) (pgs_cons (pg_name (i := 13) nd rfl (Or.inr rfl)) (pgs_cons (pg_name (i := 14) nd rfl (Or.inr rfl)) (pgs_cons (pg_name (i := 15) nd rfl (Or.inr rfl)) pgs_nil))))))))
    (pss_cons (ps_set (i := 3) nd rfl (Or.inl rfl) (pe_star mClo (bd_l11 kwR kwL) hr (by decide) passX0 (pv 16) (pa_cons (pv 4) (pa_cons (pv 5) (pa_cons (pv 6) (pa_cons (pv 7) (pa_cons (pv 8) (pa_cons (pv 9) (pa_cons (pv 10) (pa_cons (pv 11) (pa_cons (pv 12) (pa_cons (pv 13) (pa_cons (pv 14) pa_nil))))))))))) (pk_cons pe_int pk_nil)))
    (pss_cons (ps_if (pt_cmpR (op_neD hr.units) (pe_pr pTable hr (by decide) (pv 3)) (pe_op op_repA (pe_tup (pa_cons (pe_tup (pa_cons (pv 1) (pa_cons (pe_tup (pa_cons (pv 15) pa_nil)) (pa_cons (pv 1) pa_nil)))) pa_nil)) pe_int) (nomark _)) (pss_one (ps_ret pe_bl)) pss_nil)
    (pss_cons (ps_set (i := 3) nd rfl (Or.inl rfl) (pe_star mAllw ba_11 hr (by decide) passX0 (pv 16) (pa_cons pe_int (pa_cons pe_int (pa_cons (pv 4) (pa_cons (pv 5) (pa_cons (pv 6) (pa_cons (pv 7) (pa_cons (pv 7) (pa_cons (pv 8) (pa_cons (pv 9) (pa_cons (pv 9) (pa_cons (pv 10) pa_nil))))))))))) pk_nil))
    (pss_cons (ps_if (pt_cmpR (op_neD hr.units) (pe_lst (pa_cons (PP.pe (pp_meth mAl hr (by decide) passX0 ⟨(pv 3), (c_var 3)⟩ ⟨(pa_cons pe_int (pa_cons pe_int pa_nil)), (c_cons (c_c fun _ => .int _) (c_cons (c_c fun _ => .int _) c_nil))⟩)) (pa_cons (PP.pe (pp_meth mAl hr (by decide) passX0 ⟨(pv 3), (c_var 3)⟩ ⟨(pa_cons pe_int (pa_cons pe_int pa_nil)), (c_cons (c_c fun _ => .int _) (c_cons (c_c fun _ => .int _) c_nil))⟩)) pa_nil))) (pe_lst (pa_cons (pe_callTy call_tuple_of (by rfl) B.tuple (by decide +kernel) (pa_cons (pe_callB (show CallR _ (.builtin "sorted") (rSorted _) from cr_sorted) (by rfl) bSo (by decide +kernel) (pa_cons (pe_lst (pa_cons (pv 4) (pa_cons (pv 5) (pa_cons (pv 6) (pa_cons (pv 7) (pa_cons (pv 8) (pa_cons (pv 9) (pa_cons (pv 10) pa_nil)))))))) pa_nil)) pa_nil)) (pa_cons (pv 1) pa_nil))) (nomark _)) (pss_one (ps_ret pe_bl)) pss_nil)
    (pss_cons (ps_if (pt_cmpR (op_neW we hr (by decide)) (pe_star mAllw ba_14 hr (by decide) passX0 (pv 16) (pa_cons pe_int (pa_cons pe_int (pa_cons (pv 4) (pa_cons (pv 5) (pa_cons (pv 6) (pa_cons (pv 7) (pa_cons (pv 8) (pa_cons (pv 9) (pa_cons (pv 10) (pa_cons (pv 11) (pa_cons (pv 12) (pa_cons (pv 13) (pa_cons (pv 14) (pa_cons (pv 15) pa_nil)))))))))))))) pk_nil) (pv 16) (nomark _)) (pss_one (ps_ret pe_bl)) pss_nil)
    (pss_one (ps_ret (pe_cmpR (op_eqD hr.units) (pe_lamcall (T := Z.T) (TT := TTab (Z.cl 0) (Z.cl 12)) (a := "_law_call") (Ng := N__law_table_of) (k := 8) (t := fun E => tStar (Z.cl 0) "closing" (spD K Z 4 (runS p_Way_closing N_Way_closing.length)) E (fun _ _ => [.non, .non]) 12 0 0 (tVar 16) (tCons (tVar 4) (tCons (tVar 5) (tCons (tVar 6) (tCons (tVar 7) (tCons (tVar 8) (tCons (tVar 9) (tCons (tVar 10) (tCons (tVar 11) (tCons (tVar 12) (tCons (tVar 13) (tCons (tVar 14) (tCons (tVar 15) tNil)))))))))))) tNil) rfl mgT kpT lkT cdT bdT sc__law_table_of rfl (Or.inl rfl) (table_gives xf noV gE emE pTable (hr.mono (by decide))) F.tb rfl F.mem F.uni (hr.mono (by decide)) (lamS_by (by rfl)) rfl (fun _ _ _ _ _ => rfl) (fun A outer s H E f c' hr' => (pe_star mClo (bd_n12 kwR kwL) hr' (by decide) (passes_call (takes_of rfl rfl rfl rfl) (fun _ _ _ _ h => h)) (pv 16) (pa_cons (pv 4) (pa_cons (pv 5) (pa_cons (pv 6) (pa_cons (pv 7) (pa_cons (pv 8) (pa_cons (pv 9) (pa_cons (pv 10) (pa_cons (pv 11) (pa_cons (pv 12) (pa_cons (pv 13) (pa_cons (pv 14) (pa_cons (pv 15) pa_nil)))))))))))) pk_nil))) (pe_lst (pa_cons pe_non pa_nil)) (nomark _))))))))))))), ?_⟩
  exact (cs_seq (cs_asg (c_tup (c_cons (c_mkWay rfl (c_cons (c_c fun _ => .int _) (c_cons (c_c fun _ => .int _) (c_cons (c_c fun _ => .int _) c_nil)))) (c_cons (c_tupRg (c_c fun _ => .int _)) c_nil))) (cg_tup (cg_cons (cg_name 16) (cg_cons (cg_name 1) cg_nil))))
    (cs_seq (cs_setF 2 (c_callG (c_cons (c_var 0) (c_cons (c_call cC_list (c_cons (c_var 1) c_nil)) c_nil))))
    (cs_seq (cs_asg (c_slL (c_var 2) co_no (co_so (c_c fun _ => .int _))) (cg_lst (cg_cons (cg_name 4) (cg_cons (cg_name 5) (cg_cons (cg_name 6) (cg_cons (cg_name 7) (cg_cons (cg_name 8) (cg_cons (cg_name 9) cg_nil))))))))
    (cs_seq (cs_asg (c_slL (c_var 2) (co_so (c_c fun _ => .int _)) co_no) (cg_lst (cg_cons (cg_name 10) (cg_cons (cg_name 11) (cg_cons (cg_name 12) (cg_cons (cg_name 13) (cg_cons (cg_name 14) (cg_cons (cg_name 15) cg_nil))))))))
    (cs_seq (cs_setF 3 (c_star naC dg_l (c_var 16) (c_cons (c_var 4) (c_cons (c_var 5) (c_cons (c_var 6) (c_cons (c_var 7) (c_cons (c_var 8) (c_cons (c_var 9) (c_cons (c_var 10) (c_cons (c_var 11) (c_cons (c_var 12) (c_cons (c_var 13) (c_cons (c_var 14) c_nil))))))))))) (c_cons (c_c fun _ => .int _) c_nil)))
    (cs_seq (cs_if (c_tT (c_op c2_neD (c_prop (i := 3) (by decide +kernel) (by rfl) (c_var 3)) (c_op c2_repT (c_tup (c_cons (c_tup (c_cons (c_var 1) (c_cons (c_tup (c_cons (c_var 15) c_nil)) (c_cons (c_var 1) c_nil)))) c_nil)) (c_c fun _ => .int _)))) (cs_ret (c_c fun _ => .bl _)) cs_next)
    (cs_seq (cs_setF 3 (c_star naA dg_t (c_var 16) (c_cons (c_c fun _ => .int _) (c_cons (c_c fun _ => .int _) (c_cons (c_var 4) (c_cons (c_var 5) (c_cons (c_var 6) (c_cons (c_var 7) (c_cons (c_var 7) (c_cons (c_var 8) (c_cons (c_var 9) (c_cons (c_var 9) (c_cons (c_var 10) c_nil))))))))))) c_nil))
    (cs_seq (cs_if (c_tT (c_op c2_neD (c_mkL (cl_lit (c_cons (c_meth naW (c_var 3) (c_cons (c_c fun _ => .int _) (c_cons (c_c fun _ => .int _) c_nil))) (c_cons (c_meth naW (c_var 3) (c_cons (c_c fun _ => .int _) (c_cons (c_c fun _ => .int _) c_nil))) c_nil)))) (c_mkL (cl_lit (c_cons (c_call cC_tuple (c_cons (c_sortL (c_mkL (cl_lit (c_cons (c_var 4) (c_cons (c_var 5) (c_cons (c_var 6) (c_cons (c_var 7) (c_cons (c_var 8) (c_cons (c_var 9) (c_cons (c_var 10) c_nil)))))))))) c_nil)) (c_cons (c_var 1) c_nil)))))) (cs_ret (c_c fun _ => .bl _)) cs_next)
    (cs_seq (cs_if (c_tT (c_op (c2_eqw rfl true nfC tyC) (c_star naA dg_t (c_var 16) (c_cons (c_c fun _ => .int _) (c_cons (c_c fun _ => .int _) (c_cons (c_var 4) (c_cons (c_var 5) (c_cons (c_var 6) (c_cons (c_var 7) (c_cons (c_var 8) (c_cons (c_var 9) (c_cons (c_var 10) (c_cons (c_var 11) (c_cons (c_var 12) (c_cons (c_var 13) (c_cons (c_var 14) (c_cons (c_var 15) c_nil)))))))))))))) c_nil) (c_var 16))) (cs_ret (c_c fun _ => .bl _)) cs_next)
    (cs_ret (c_op c2_eqD (c_lamT rfl rfl rfl fun E => c_star naC dg_n (c_var 16) (c_cons (c_var 4) (c_cons (c_var 5) (c_cons (c_var 6) (c_cons (c_var 7) (c_cons (c_var 8) (c_cons (c_var 9) (c_cons (c_var 10) (c_cons (c_var 11) (c_cons (c_var 12) (c_cons (c_var 13) (c_cons (c_var 14) (c_cons (c_var 15) c_nil)))))))))))) c_nil) (c_mkL (cl_lit (c_cons (c_c fun _ => .non) c_nil))))))))))))))
end
end W2

set_option maxHeartbeats 1000000
/-! PyE: _law_allowing_right is true. -/
namespace W2
open PySem PySem.Spec PyProof.Rows L2 Pg Pf LamX Pp Tab Rul
theorem lc_map {ρ : Slots} {n : Nat} {f : Slots → S → R D} {g : D → D} : ∀ (ds : List D) (s : S), (∀ d ∈ ds, ∀ s, f (ρ.set n (.fz d)) s = .ok (g d) s) → lcL (gN n) yesT f ρ ds s = .ok (ds.map g) s
  | [], s, _ => rfl
  | d :: ds, s, h => by
    show (noex (f (ρ.set n (.fz d)) s)).bind (fun y s => (lcL (gN n) yesT f ρ ds s).bind fun ys s => R.ok (y :: ys) s) = _
    rw [h d (List.mem_cons_self ..)]
    show (lcL (gN n) yesT f ρ ds s).bind (fun ys s => R.ok (g d :: ys) s) = _
    rw [lc_map ds s fun x hx => h x (List.mem_cons_of_mem _ hx)]
    rfl
theorem bC1 {op : List D → S → R D} {f : Slots → S → R D} {ρ : Slots} {s s' : S} {d : D} (h : f ρ s = .ok d s') : bC op (cnsA f nilA) ρ s = op [d] s' := by
  unfold bC cnsA
  rw [h]
  rfl
section
variable {e l k : Nat} {c : Cf} {ns : List Int} {m a q : Addr} {b : Nat}
theorem srtS_U (hv : ∀ x ∈ ns, 0 ≤ x ∧ x < (k : Int)) : srtS ns = sortU k ns := asc_one asc_srtS ((rangeI_asc _).sublist List.filter_sublist) fun z => by
  unfold sortU
  rw [mem_srtS, List.mem_filter, decide_eq_true_eq, mem_range']
  exact ⟨fun h => ⟨hv z h, h⟩, fun h => h.2⟩
/-- the slots of _law_allowing_right -/
def rA (m : Addr) (e l k : Nat) (c : Cf) (x3 x4 x5 x6 x7 x8 : Sl) : Slots := [.fz (.adr m), .fz (netDD e l k c), .fz (wayD e l k c), x3, x4, x5, x6, x7, x8, .no, .no]
def a_spots : Slots → S → R Fl := setF 8 (mkL (lcF (rgI rg1F (cnsA (bC F_draw (cnsA (vr 0) (cnsA (kst (.int 5)) nilA))) nilA)) (gN 9) yesT (bC F_draw (cnsA (vr 0) (cnsA (b2 ixF (vr 1) (kst (.int 2))) nilA))) [9]))
def a_pair : Slots → S → R Fl := asgS (bC tupF (cnsA (bC F_draw (cnsA (vr 0) (cnsA (b2 ixF (vr 1) (kst (.int 0))) nilA))) (cnsA (bC F_draw (cnsA (vr 0) (cnsA (b2 ixF (vr 1) (kst (.int 1))) nilA))) nilA))) (gT 2 (gsC (gN 7) (gsC (gN 6) gs0)))
def a_rows : Slots → S → R Fl := rowsS 3 10 (b2 ixF (vr 1) (kst (.int 3))) (bC tupleF (cnsA (b1 sSetF (vr 8)) nilA)) (vr 7) (vr 6)
def a_due : Slots → S → R Fl := setF 4 (iff (tst (b2 neqF (vr 8) (mkL (litL nilA)))) (bC tupleF (cnsA (mkL (lcF (seqI (vr 3)) (gN 10) yesT (bC tupleF (cnsA (vr 10) nilA)) [10])) nilA)) (mkL (litL (cnsA (kst .non) nilA))))
noncomputable def a_opened : Slots → S → R D := bC (nF 4 (runS p__law_opened N__law_opened.length)) (cnsA (vr 2) (cnsA (vr 7) (cnsA (vr 6) (cnsA (vr 8) nilA))))
noncomputable def a_cmp : Slots → S → R Fl := ifS (tst (b2 (strF true) (bC reprF (cnsA (fun ρ s => tabR (a_opened ρ s)) nilA)) (bC reprF (cnsA (vr 4) nilA)))) (retS (kst (.bl false))) nxS
def a_nil : Slots → S → R Fl := ifS (tst (b2 eqF (vr 8) (mkL (litL nilA)))) (retS (kst (.bl true))) nxS
def a_ret : Slots → S → R Fl := retS (b2 eqF (mkL (litL (cnsA (b1 (fldF 0 0) (vr 5)) (cnsA (b1 (fldF 0 1) (vr 5)) (cnsA (b1 (fldF 0 2) (vr 5)) nilA))))) (bC listF (cnsA (slX (vr 1) noO (soO (kst (.int 3)))) nilA)))
theorem p_allow_eq : p__law_allowing_right = seqS a_spots (seqS a_pair (seqS a_rows (seqS a_due (seqS a_cmp (seqS a_nil (seqS (setF 5 a_opened) a_ret)))))) := by
  unfold p__law_allowing_right
  rfl
theorem at_spots (o : OkW e l k c) (hb : b ≤ 50000) : Al (fun f s => ∃ ρ', f = .nx ρ' ∧ ∃ (ns : List Int) (b' : Nat), ns.length ≤ 4 ∧ (∀ x ∈ ns, 0 ≤ x ∧ x < (k : Int)) ∧ ρ' = rA m e l k c .no .no .no .no .no (.fz (.lst (intsD ns))) ∧ s = ms m a q b' ∧ b' ≤ b + 5)
    (a_spots (rA m e l k c .no .no .no .no .no .no) (ms m a q b)) := by
  have k1 := o.k1
  have k2 := o.k2
  unfold a_spots setF mkL
  refine Al.bind (P := fun d s => ∃ (ns : List Int) (b' : Nat), d = .lst (intsD ns) ∧ ns.length ≤ 4 ∧ (∀ x ∈ ns, 0 ≤ x ∧ x < (k : Int)) ∧ s = ms m a q b' ∧ b' ≤ b + 5) ?_ fun d s ⟨ns, b', e1, e2, e3, e4, e5⟩ => by
    subst e1 e4
    exact .ok ⟨_, rfl, ns, b', e2, e3, rfl, rfl, e5⟩
  refine Al.bind (P := fun ds s => ∃ (ns : List Int) (b' : Nat), ds = intsD ns ∧ ns.length ≤ 4 ∧ (∀ x ∈ ns, 0 ≤ x ∧ x < (k : Int)) ∧ s = ms m a q b' ∧ b' ≤ b + 5) ?_ fun d s ⟨ns, b', e1, e2, e3, e4, e5⟩ => by
    subst e1 e4
    exact .ok ⟨ns, b', rfl, e2, e3, rfl, e5⟩
  unfold lcF
  refine Al.bind (P := fun ds s => ds.length ≤ 4 ∧ s = ms m a q (b + 1)) ?_ fun ds s ⟨e1, e2⟩ => ?_
  · unfold rgI cnsA
    refine Al.bind (P := fun ds s => ∃ i : Int, ds = [.int i] ∧ 0 ≤ i ∧ i < 5 ∧ s = ms m a q (b + 1)) ?_ fun ds s ⟨i, e1, i0, i1, e2⟩ => ?_
    · refine Al.bind (P := fun d s => ∃ i : Int, d = .int i ∧ 0 ≤ i ∧ i < 5 ∧ s = ms m a q (b + 1)) ?_ fun d s ⟨i, e1, i0, i1, e2⟩ => by
        subst e1
        exact .ok ⟨i, rfl, i0, i1, e2⟩
      show Al _ (F_draw [.adr m, .int 5] (ms m a q b))
      exact (al_draw (by decide) (by decide) (by omega)).imp fun d s ⟨⟨i, e1, i0, i1⟩, e2⟩ => ⟨i, e1, i0, i1, e2⟩
    · subst e1 e2
      obtain ⟨n, rfl⟩ : ∃ n : Nat, i = n := ⟨i.toNat, by omega⟩
      have hn : n < 5 := by omega
      have : rg1F [.int (n : Nat)] (ms m a q (b + 1)) = .ok (rngD 0 n) (ms m a q (b + 1)) := by simp only [rg1F, rgB_nat (show n ≤ 12 by omega), if_true, Int.toNat_natCast]
      rw [this]
      refine .ok ⟨?_, rfl⟩
      rw [rngD_len]
      omega
  · subst e2
    rw [if_pos (by unfold fits; exact decide_eq_true (by omega))]
    refine (al_draws (t := (k : Int)) (by omega) (by omega) (fun d s => ?_) ds (b + 1) (by omega)).imp fun es s ⟨⟨ns, e1, e2, e3⟩, e4⟩ => ⟨ns, b + 1 + ds.length, e1, by omega, e3, e4, by omega⟩
    refine bC_of ?_
    unfold cnsA
    rw [show b2 ixF (vr 1) (kst (.int 2)) ((wipeS (rA m e l k c .no .no .no .no .no .no) [9]).set 9 (.fz d)) = fun s => R.ok (.int (k : Nat)) s from funext fun s => net_ix 2 k (fun _ => rfl) _ (fun _ => rfl) s]
    rfl
theorem at_pair (o : OkW e l k c) (hb : b ≤ 60000) : Al (fun f s => ∃ ρ', f = .nx ρ' ∧ ∃ (i j : Nat), i < e ∧ j < l ∧ ρ' = rA m e l k c .no .no .no (.fz (.int (j : Nat))) (.fz (.int (i : Nat))) (.fz (.lst (intsD ns))) ∧ s = ms m a q (b + 2))
    (a_pair (rA m e l k c .no .no .no .no .no (.fz (.lst (intsD ns)))) (ms m a q b)) := by
  have r1 := o.r1
  have r2 := o.r2
  have l1 := o.l1
  have l2 := o.l2
  have d1 : ∀ s, bC F_draw (cnsA (vr 0) (cnsA (b2 ixF (vr 1) (kst (.int 0))) nilA)) (rA m e l k c .no .no .no .no .no (.fz (.lst (intsD ns)))) s = F_draw [.adr m, .int (e : Nat)] s := fun s => by
    refine bC_of ?_
    unfold cnsA
    rw [show b2 ixF (vr 1) (kst (.int 0)) (rA m e l k c .no .no .no .no .no (.fz (.lst (intsD ns)))) = fun s => R.ok (.int (e : Nat)) s from funext fun s => net_ix 0 e (fun _ => rfl) _ (fun _ => rfl) s]
    rfl
  have d2 : ∀ s, bC F_draw (cnsA (vr 0) (cnsA (b2 ixF (vr 1) (kst (.int 1))) nilA)) (rA m e l k c .no .no .no .no .no (.fz (.lst (intsD ns)))) s = F_draw [.adr m, .int (l : Nat)] s := fun s => by
    refine bC_of ?_
    unfold cnsA
    rw [show b2 ixF (vr 1) (kst (.int 1)) (rA m e l k c .no .no .no .no .no (.fz (.lst (intsD ns)))) = fun s => R.ok (.int (l : Nat)) s from funext fun s => net_ix 1 l (fun _ => rfl) _ (fun _ => rfl) s]
    rfl
  unfold a_pair asgS
  refine Al.bind (P := fun d s => ∃ (i j : Nat), d = .tup [.int (i : Nat), .int (j : Nat)] ∧ i < e ∧ j < l ∧ s = ms m a q (b + 2)) ?_ fun d s ⟨i, j, e1, e2, e3, e4⟩ => by
    subst e1 e4
    exact .ok ⟨_, rfl, i, j, e2, e3, rfl, rfl⟩
  unfold bC
  refine Al.bind (P := fun d s => ∃ (i j : Nat), d = [.int (i : Nat), .int (j : Nat)] ∧ i < e ∧ j < l ∧ s = ms m a q (b + 2)) ?_ fun d s ⟨i, j, e1, e2, e3, e4⟩ => by
    subst e1 e4
    exact .ok ⟨i, j, rfl, e2, e3, rfl⟩
  show Al _ ((bC F_draw (cnsA (vr 0) (cnsA (b2 ixF (vr 1) (kst (.int 0))) nilA)) (rA m e l k c .no .no .no .no .no (.fz (.lst (intsD ns)))) (ms m a q b)).bind fun x s => ((bC F_draw (cnsA (vr 0) (cnsA (b2 ixF (vr 1) (kst (.int 1))) nilA)) (rA m e l k c .no .no .no .no .no (.fz (.lst (intsD ns)))) s).bind fun x s => R.ok [x] s).bind fun xs s => R.ok (x :: xs) s)
  rw [d1]
  refine Al.bind (al_draw (by omega) (by omega) (by omega)) fun x s ⟨⟨i, e1, i0, i1⟩, e2⟩ => ?_
  subst e1 e2
  rw [d2]
  refine Al.bind (P := fun d s => ∃ j : Nat, d = [.int (j : Nat)] ∧ j < l ∧ s = ms m a q (b + 2)) ?_ fun d s ⟨j, e1, e3, e4⟩ => by
    subst e1 e4
    refine .ok ⟨i.toNat, j, ?_, by omega, e3, rfl⟩
    rw [show ((i.toNat : Nat) : Int) = i by omega]
  refine Al.bind (al_draw (by omega) (by omega) (by omega)) fun x s ⟨⟨j, e1, j0, j1⟩, e2⟩ => ?_
  subst e1 e2
  refine .ok ⟨j.toNat, ?_, by omega, rfl⟩
  rw [show ((j.toNat : Nat) : Int) = j by omega]
/-- the rows of a net, as lists -/
def rowsLD (e l : Nat) (c : Cf) : List D := (List.range e).map fun i => .lst (cellsD l (c i))
theorem rowsOf_net (e l : Nat) (c : Cf) : rowsOf (netRows e l c) = some ((List.range e).map fun i => cellsD l (c i)) := by
  have h : ∀ is : List Nat, rowsOf (is.map fun i => D.rls (cellsD l (c i))) = some (is.map fun i => cellsD l (c i)) := by
    intro is
    induction is with
    | nil => rfl
    | cons i is ih =>
      show (match itsD (D.rls (cellsD l (c i))), rowsOf (is.map fun i => D.rls (cellsD l (c i))) with | some r, some rs => some (r :: rs) | _, _ => none) = _
      rw [ih]
      rfl
  exact h _
theorem put_rows (e l : Nat) (c : Cf) {i j : Nat} (hi : i < e) (hj : j < l) (v : List Int) :
    (((List.range e).map fun i => cellsD l (c i)).set i ((cellsD l (c i)).set j (.tup (intsD v)))).map D.lst = rowsLD e l (put2 c i j v) := by
  unfold rowsLD
  apply List.ext_getElem?
  intro n
  rw [List.getElem?_map, List.getElem?_map]
  by_cases z : n = i
  · subst z
    rw [List.getElem?_set_self (by rw [List.length_map, List.length_range]; exact hi), List.getElem?_range hi]
    show some (D.lst _) = some (D.lst _)
    congr 2
    unfold cellsD
    apply List.ext_getElem?
    intro p
    by_cases y : p = j
    · subst y
      rw [List.getElem?_set_self (by rw [List.length_map, List.length_range]; exact hj), List.getElem?_map, List.getElem?_range hj]
      show _ = some (D.tup (intsD (put2 c n p v n p)))
      unfold put2
      rw [if_pos ⟨rfl, rfl⟩]
    · rw [List.getElem?_set_ne (Ne.symm y), List.getElem?_map, List.getElem?_map]
      by_cases hp : p < l
      · rw [List.getElem?_range hp]
        show some (D.tup (intsD (c n p))) = some (D.tup (intsD (put2 c n j v n p)))
        unfold put2
        rw [if_neg fun h => y h.2]
      · rw [List.getElem?_eq_none (by rw [List.length_range]; omega)]
        rfl
  · rw [List.getElem?_set_ne (Ne.symm z), List.getElem?_map]
    by_cases hn : n < e
    · rw [List.getElem?_range hn]
      show some (D.lst (cellsD l (c n))) = some (D.lst (cellsD l (put2 c i j v n)))
      have : put2 c i j v n = c n := by
        funext p
        unfold put2
        rw [if_neg fun h => z h.1]
      rw [this]
    · rw [List.getElem?_eq_none (by rw [List.length_range]; omega)]
      rfl
theorem a_rows_eq (o : OkW e l k c) {i j : Nat} (hi : i < e) (hj : j < l) (hn : ns.length ≤ 4) (hv : ∀ x ∈ ns, 0 ≤ x ∧ x < (k : Int)) (s : S) :
    a_rows (rA m e l k c .no .no .no (.fz (.int (j : Nat))) (.fz (.int (i : Nat))) (.fz (.lst (intsD ns)))) s = .ok (.nx (rA m e l k c (.fz (.lst (rowsLD e l (put2 c i j (sortU k ns))))) .no .no (.fz (.int (j : Nat))) (.fz (.int (i : Nat))) (.fz (.lst (intsD ns))))) s := by
  obtain ⟨ρ, hρ⟩ : ∃ ρ, ρ = rA m e l k c .no .no .no (.fz (.int (j : Nat))) (.fz (.int (i : Nat))) (.fz (.lst (intsD ns))) := ⟨_, rfl⟩
  have f0 : b2 ixF (vr 1) (kst (.int 3)) ρ s = .ok (.rls (netRows e l c)) s := by
    rw [hρ]
    unfold b2
    show (ixF (netDD e l k c) (.int 3) s : R D) = _
    rw [net_eq]
    rfl
  have setno : ρ.set 3 .no = ρ := by rw [hρ]; rfl
  have fv : bC tupleF (cnsA (b1 sSetF (vr 8)) nilA) ρ s = .ok (.tup (intsD (sortU k ns))) s := by
    have h1 : b1 sSetF (vr 8) ρ s = .ok (.lst (intsD (srtS ns))) s := by
      rw [hρ]
      show sSetF (.lst (intsD ns)) s = _
      unfold sSetF
      show (match dInts (intsD ns) with | some ns => if ns.length < 64 then R.ok (D.lst ((srtS ns).map D.int)) s else .un | none => .un) = _
      rw [show dInts (intsD ns) = some ns from dInts_map ns]
      show (if ns.length < 64 then R.ok (D.lst ((srtS ns).map D.int)) s else .un) = _
      rw [if_pos (by omega)]
      rfl
    unfold bC cnsA
    rw [h1, srtS_U hv]
    rfl
  have lr : (netRows e l c).length = e := by unfold netRows; rw [List.length_map, List.length_range]
  have r2 := o.r2
  unfold a_rows rowsS
  rw [← hρ, f0]
  show (match rowsOf (netRows e l c) with | some rs => if 3 < ρ.length ∧ 10 < ρ.length then rowsK 3 (bC tupleF (cnsA (b1 sSetF (vr 8)) nilA)) (vr 7) (vr 6) ρ rs s else .un | none => .un) = _
  rw [rowsOf_net]
  show (if 3 < ρ.length ∧ 10 < ρ.length then rowsK 3 (bC tupleF (cnsA (b1 sSetF (vr 8)) nilA)) (vr 7) (vr 6) ρ ((List.range e).map fun i => cellsD l (c i)) s else .un) = _
  rw [if_pos (by rw [hρ]; exact ⟨(by show 3 < 11; decide), (by show 10 < 11; decide)⟩)]
  unfold rowsK
  rw [if_pos (by unfold fits; rw [List.length_map, List.length_range]; exact decide_eq_true (by omega)), setno, fv]
  have v7 : vr 7 ρ s = .ok (.int (i : Nat)) s := by rw [hρ]; rfl
  have v6 : vr 6 ρ s = .ok (.int (j : Nat)) s := by rw [hρ]; rfl
  show (vr 7 ρ s).bind (fun a s => rowsA 3 (vr 6) ρ ((List.range e).map fun i => cellsD l (c i)) (.tup (intsD (sortU k ns))) a s) = _
  rw [v7]
  have at_i : ((List.range e).map fun i => cellsD l (c i))[((i : Nat) : Int).toNat]? = some (cellsD l (c i)) := by
    rw [Int.toNat_natCast, List.getElem?_map, List.getElem?_range hi]
    rfl
  show (match ((List.range e).map fun i => cellsD l (c i))[((i : Nat) : Int).toNat]? with | some r => if (0 : Int) ≤ (i : Nat) then (vr 6 (ρ.set 3 .no) s).bind fun b s => rowsE 3 ρ ((List.range e).map fun i => cellsD l (c i)) (.tup (intsD (sortU k ns))) ((i : Nat) : Int).toNat r b s else .un | none => .un) = _
  rw [at_i]
  show (if (0 : Int) ≤ (i : Nat) then (vr 6 (ρ.set 3 .no) s).bind fun b s => rowsE 3 ρ ((List.range e).map fun i => cellsD l (c i)) (.tup (intsD (sortU k ns))) ((i : Nat) : Int).toNat (cellsD l (c i)) b s else .un) = _
  rw [if_pos (by omega), setno, v6]
  show (if (0 : Int) ≤ (j : Nat) ∧ ((j : Nat) : Int) < ((cellsD l (c i)).length : Nat) then R.ok (Fl.nx (ρ.set 3 (.fz (.lst ((((List.range e).map fun i => cellsD l (c i)).set ((i : Nat) : Int).toNat ((cellsD l (c i)).set ((j : Nat) : Int).toNat (.tup (intsD (sortU k ns))))).map D.lst))))) s else .un) = _
  rw [if_pos ⟨by omega, by unfold cellsD; rw [List.length_map, List.length_range]; omega⟩, Int.toNat_natCast, Int.toNat_natCast, put_rows e l c hi hj, hρ]
  rfl
/-- what is due -/
def dueA (e l k : Nat) (c : Cf) (i j : Nat) (ns : List Int) : D := if ns = [] then .lst [.non] else tabDD e l (put2 c i j (sortU k ns))
theorem eqOk_nilL (ns : List Int) : eqOk (.lst (intsD ns)) (.lst []) = true ∧ (D.lst (intsD ns)).py = .list (ns.map PyData.int) := by
  have hs : SeqAt.shaped (.list (ns.map PyData.int)) = true := by
    unfold SeqAt.shaped
    show (PyData.canLayAll0 (ns.map PyData.int) && decide (PyData.depthAll (ns.map PyData.int) + 1 ≤ 64)) = true
    rw [(layI ns).1, (layI ns).2]
    rfl
  have e1 : (D.lst (intsD ns)).py = .list (ns.map PyData.int) := by
    show PyData.list (pyA (intsD ns)) = _
    rw [(py_ints ns).1]
  refine ⟨?_, e1⟩
  unfold eqOk
  rw [e1, hs, show (D.lst (intsD ns)).isPy = true from (py_ints ns).2]
  rfl
theorem eq_nilL (ns : List Int) (s : S) : eqF (.lst (intsD ns)) (.lst []) s = .ok (.bl (decide (ns = []))) s := by
  obtain ⟨ok, e1⟩ := eqOk_nilL ns
  unfold eqF
  rw [if_pos ok, e1]
  cases ns <;> rfl
theorem neq_nilL (ns : List Int) (s : S) : neqF (.lst (intsD ns)) (.lst []) s = .ok (.bl (!decide (ns = []))) s := by
  obtain ⟨ok, e1⟩ := eqOk_nilL ns
  unfold neqF
  rw [if_pos ok, e1]
  cases ns <;> rfl
theorem fits12 {α : Type} {xs : List α} (h : xs.length ≤ 12) : fits xs.length = true := decide_eq_true (by omega)
theorem tup_rows (e l : Nat) (c : Cf) (he : e ≤ 6) {ρ : Slots} {n r : Nat} (h3 : ∀ s, vr n ρ s = .ok (.lst (rowsLD e l c)) s) (hr : r < ρ.length) (s : S) :
    bC tupleF (cnsA (mkL (lcF (seqI (vr n)) (gN r) yesT (bC tupleF (cnsA (vr r) nilA)) [r])) nilA) ρ s = .ok (tabDD e l c) s := by
  have hl : lcF (seqI (vr n)) (gN r) yesT (bC tupleF (cnsA (vr r) nilA)) [r] ρ s = .ok (rowsD e l c) s := by
    unfold lcF seqI
    rw [h3]
    show (if fits (rowsLD e l c).length = true then lcL (gN r) yesT (bC tupleF (cnsA (vr r) nilA)) (wipeS ρ [r]) (rowsLD e l c) s else .un) = _
    rw [if_pos (fits12 (by unfold rowsLD; rw [List.length_map, List.length_range]; omega)), lc_map (g := fun d => match d with | .lst ds => .tup ds | d => d) (rowsLD e l c) s]
    · congr 1
      unfold rowsLD rowsD
      rw [List.map_map]
      rfl
    · intro d hd s
      unfold rowsLD at hd
      obtain ⟨i, _, rfl⟩ := List.mem_map.mp hd
      have hv : vr r ((wipeS ρ [r]).set r (.fz (.lst (cellsD l (c i))))) s = .ok (.lst (cellsD l (c i))) s := by
        unfold vr
        rw [List.getElem?_set_self (by show r < (ρ.set r .no).length; rw [List.length_set]; exact hr)]
      unfold bC cnsA
      rw [hv]
      rfl
  have hm : mkL (lcF (seqI (vr n)) (gN r) yesT (bC tupleF (cnsA (vr r) nilA)) [r]) ρ s = .ok (.lst (rowsD e l c)) s := by
    unfold mkL
    rw [hl]
    rfl
  rw [bC1 hm, tab_rows]
  rfl
theorem opened_in (o : OkW e l k c) {i j : Nat} (hi : i < e) (hj : j < l) (hn : ns.length ≤ 4) (hv : ∀ x ∈ ns, 0 ≤ x ∧ x < (k : Int)) (s : S) (x3 x4 x5 : Sl) :
    a_opened (rA m e l k c x3 x4 x5 (.fz (.int (j : Nat))) (.fz (.int (i : Nat))) (.fz (.lst (intsD ns)))) s = if ns = [] then .ex noPl s else .ok (wayD e l k (put2 c i j (sortU k ns))) s := by
  rw [← opened_eq o hi hj hn hv s]
  unfold a_opened
  show nF 4 (runS p__law_opened N__law_opened.length) [wayD e l k c, .int (i : Nat), .int (j : Nat), .lst (intsD ns)] s = _
  unfold nF
  rw [if_pos (by rfl)]
theorem a_rest (o : OkW e l k c) {i j : Nat} (hi : i < e) (hj : j < l) (hn : ns.length ≤ 4) (hv : ∀ x ∈ ns, 0 ≤ x ∧ x < (k : Int)) (s : S) :
    (seqS a_rows (seqS a_due (seqS a_cmp (seqS a_nil (seqS (setF 5 a_opened) a_ret))))) (rA m e l k c .no .no .no (.fz (.int (j : Nat))) (.fz (.int (i : Nat))) (.fz (.lst (intsD ns)))) s = .ok (.rt (.bl true)) s := by
  rw [seq_nx (a_rows_eq o hi hj hn hv s)]
  obtain ⟨x3, h3⟩ : ∃ x3 : Sl, x3 = .fz (.lst (rowsLD e l (put2 c i j (sortU k ns)))) := ⟨_, rfl⟩
  rw [← h3]
  have due : a_due (rA m e l k c x3 .no .no (.fz (.int (j : Nat))) (.fz (.int (i : Nat))) (.fz (.lst (intsD ns)))) s = .ok (.nx (rA m e l k c x3 (.fz (dueA e l k c i j ns)) .no (.fz (.int (j : Nat))) (.fz (.int (i : Nat))) (.fz (.lst (intsD ns))))) s := by
    have t : ∀ s, tst (b2 neqF (vr 8) (mkL (litL nilA))) (rA m e l k c x3 .no .no (.fz (.int (j : Nat))) (.fz (.int (i : Nat))) (.fz (.lst (intsD ns)))) s = .ok (!decide (ns = [])) s := fun s => by
      show (neqF (.lst (intsD ns)) (.lst []) s).bind bl' = _
      rw [neq_nilL]
      rfl
    unfold a_due setF iff
    rw [t]
    by_cases z : ns = []
    · show ((if (!decide (ns = [])) = true then _ else _ : R D).bind _ : R Fl) = _
      rw [decide_eq_true z]
      show R.ok (Fl.nx ((rA m e l k c x3 .no .no (.fz (.int (j : Nat))) (.fz (.int (i : Nat))) (.fz (.lst (intsD ns)))).set 4 (.fz (.lst [.non])))) s = _
      unfold dueA
      rw [if_pos z]
      rfl
    · show ((if (!decide (ns = [])) = true then _ else _ : R D).bind _ : R Fl) = _
      rw [decide_eq_false z]
      show (R.bind (bC tupleF (cnsA (mkL (lcF (seqI (vr 3)) (gN 10) yesT (bC tupleF (cnsA (vr 10) nilA)) [10])) nilA) (rA m e l k c x3 .no .no (.fz (.int (j : Nat))) (.fz (.int (i : Nat))) (.fz (.lst (intsD ns)))) s) _ : R Fl) = _
      rw [tup_rows e l (put2 c i j (sortU k ns)) o.r2 (fun s => by rw [h3]; rfl) (by show 10 < 11; decide)]
      unfold dueA
      rw [if_neg z]
      rfl
  rw [seq_nx due]
  obtain ⟨ρ4, h4⟩ : ∃ ρ4 : Slots, ρ4 = rA m e l k c x3 (.fz (dueA e l k c i j ns)) .no (.fz (.int (j : Nat))) (.fz (.int (i : Nat))) (.fz (.lst (intsD ns))) := ⟨_, rfl⟩
  have all4 : allS ρ4 = ρ4 := by rw [h4, h3]; rfl
  have op4 : a_opened ρ4 s = if ns = [] then .ex noPl s else .ok (wayD e l k (put2 c i j (sortU k ns))) s := by rw [h4]; exact opened_in o hi hj hn hv s _ _ _
  have v4 : ∀ s, vr 4 ρ4 s = .ok (dueA e l k c i j ns) s := fun s => by rw [h4]; rfl
  have tb : tabR (a_opened ρ4 s) = .ok (dueA e l k c i j ns) s := by
    rw [op4]
    unfold dueA
    by_cases z : ns = []
    · rw [if_pos z, if_pos z]
      rfl
    · rw [if_neg z, if_neg z]
      rfl
  have rp : ∀ s, reprF [dueA e l k c i j ns] s = .ok (.str (dueA e l k c i j ns).py.shown) s := fun s => by
    refine if_pos ?_
    unfold dueA
    by_cases z : ns = []
    · rw [if_pos z]
      exact repr_none
    · rw [if_neg z]
      exact repr_tab (put_ok o (sortU_cell hv z))
  have f1 : a_cmp ρ4 s = .ok (.nx ρ4) s := by
    have r1 : bC reprF (cnsA (fun ρ s => tabR (a_opened ρ s)) nilA) ρ4 s = .ok (.str (dueA e l k c i j ns).py.shown) s := by
      rw [bC1 (f := fun ρ s => tabR (a_opened ρ s)) tb]
      exact rp s
    have r2 : bC reprF (cnsA (vr 4) nilA) ρ4 s = .ok (.str (dueA e l k c i j ns).py.shown) s := by
      unfold bC cnsA
      rw [v4]
      exact rp s
    unfold a_cmp ifS tst b2
    rw [all4, r1]
    show (R.bind (R.bind (R.bind (bC reprF (cnsA (vr 4) nilA) ρ4 s) fun y s => strF true (.str (dueA e l k c i j ns).py.shown) y s) bl') _ : R Fl) = _
    rw [r2]
    show (R.bind (R.bind (strF true (.str (dueA e l k c i j ns).py.shown) (.str (dueA e l k c i j ns).py.shown) s) bl') _ : R Fl) = _
    rw [ne_str]
    rfl
  rw [← h4, seq_nx f1]
  have t2 : tst (b2 eqF (vr 8) (mkL (litL nilA))) ρ4 s = .ok (decide (ns = [])) s := by
    rw [h4]
    show (eqF (.lst (intsD ns)) (.lst []) s).bind bl' = _
    rw [eq_nilL]
    rfl
  by_cases z : ns = []
  · have f2 : a_nil ρ4 s = .ok (.rt (.bl true)) s := by
      unfold a_nil ifS
      rw [all4, t2, decide_eq_true z]
      rfl
    unfold seqS
    rw [f2]
    rfl
  · have f2 : a_nil ρ4 s = .ok (.nx ρ4) s := by
      unfold a_nil ifS
      rw [all4, t2, decide_eq_false z]
      rfl
    rw [seq_nx f2]
    have oP := put_ok o (i := i) (j := j) (sortU_cell hv z)
    obtain ⟨ρ5, h5⟩ : ∃ ρ5 : Slots, ρ5 = rA m e l k c x3 (.fz (dueA e l k c i j ns)) (.fz (wayD e l k (put2 c i j (sortU k ns)))) (.fz (.int (j : Nat))) (.fz (.int (i : Nat))) (.fz (.lst (intsD ns))) := ⟨_, rfl⟩
    have f5 : setF 5 a_opened ρ4 s = .ok (.nx ρ5) s := by
      unfold setF
      rw [op4, if_neg z, h4, h5]
      rfl
    rw [seq_nx f5]
    have all5 : allS ρ5 = ρ5 := by rw [h5, h3]; rfl
    unfold a_ret retS
    rw [all5]
    have l1 : mkL (litL (cnsA (b1 (fldF 0 0) (vr 5)) (cnsA (b1 (fldF 0 1) (vr 5)) (cnsA (b1 (fldF 0 2) (vr 5)) nilA)))) ρ5 s = .ok (.lst (intsD [(e : Int), (l : Int), (k : Int)])) s := by
      rw [h5]
      rfl
    have l2 : bC listF (cnsA (slX (vr 1) noO (soO (kst (.int 3)))) nilA) ρ5 s = .ok (.lst (intsD [(e : Int), (l : Int), (k : Int)])) s := by
      have y : slX (vr 1) noO (soO (kst (.int 3))) ρ5 s = slF (netDD e l k c) none (some 3) s := by
        rw [h5]
        rfl
      unfold bC cnsA
      rw [y, net_eq]
      rfl
    unfold b2
    rw [l1]
    show (R.bind (R.bind (bC listF (cnsA (slX (vr 1) noO (soO (kst (.int 3)))) nilA) ρ5 s) fun y s => eqF (.lst (intsD [(e : Int), (l : Int), (k : Int)])) y s) _ : R Fl) = _
    rw [l2]
    show (R.bind (eqF (.lst (intsD [(e : Int), (l : Int), (k : Int)])) (.lst (intsD [(e : Int), (l : Int), (k : Int)])) s) _ : R Fl) = _
    rw [eq_same]
    rfl
theorem allowing_right_true (o : OkW e l k c) (hb : b ≤ 50000) : Al (fun d s => d = .bl true ∧ ∃ b', s = ms m a q b' ∧ b' ≤ b + 9) (runS p__law_allowing_right N__law_allowing_right.length [.adr m, netDD e l k c, wayD e l k c] (ms m a q b)) := by
  have e0 : st0 N__law_allowing_right.length [.adr m, netDD e l k c, wayD e l k c] = rA m e l k c .no .no .no .no .no .no := rfl
  unfold runS
  rw [e0, p_allow_eq]
  refine Al.bind (P := fun f s => f = .rt (.bl true) ∧ ∃ b', s = ms m a q b' ∧ b' ≤ b + 9) ?_ fun f s ⟨e1, e2⟩ => by
    subst e1
    exact .ok ⟨rfl, e2⟩
  refine al_seq (P1 := fun ρ' s => ∃ (ns : List Int) (b' : Nat), ns.length ≤ 4 ∧ (∀ x ∈ ns, 0 ≤ x ∧ x < (k : Int)) ∧ ρ' = rA m e l k c .no .no .no .no .no (.fz (.lst (intsD ns))) ∧ s = ms m a q b' ∧ b' ≤ b + 5) (at_spots o hb) ?_
  rintro ρ1 s1 ⟨ns, b1, hn, hv, rfl, rfl, hb1⟩
  refine al_seq (P1 := fun ρ' s => ∃ (i j : Nat), i < e ∧ j < l ∧ ρ' = rA m e l k c .no .no .no (.fz (.int (j : Nat))) (.fz (.int (i : Nat))) (.fz (.lst (intsD ns))) ∧ s = ms m a q (b1 + 2)) (at_pair o (by omega)) ?_
  rintro ρ2 s2 ⟨i, j, hi, hj, rfl, rfl⟩
  rw [a_rest o hi hj hn hv]
  exact .ok ⟨rfl, b1 + 2, rfl, by omega⟩
end
end W2

set_option maxHeartbeats 1000000
/-! PyF: mirrored ways, evaluated. -/
namespace W2
open PySem PySem.Spec PyProof.Rows L2 Pg Pf LamX Pp Tab Rul
/-- a for over range(n), by what holds before each turn -/
theorem for_rg {v : Nat} {F : Slots → S → R Fl} {fi : Slots → S → R (List D)} {ρ : Slots} {s : S} {n : Nat} (P : Nat → Slots → Prop) (hi : fi ρ s = .ok (rngD 0 n) s) (h0 : P 0 ρ)
    (step : ∀ i ρ, i < n → P i ρ → ∃ ρ2, F (ρ.set v (.fz (.int (i : Nat)))) s = .ok (.nx ρ2) s ∧ P (i + 1) ρ2) : ∃ ρ', forS fi (gN v) F ρ s = .ok (.nx ρ') s ∧ P n ρ' := by
  obtain ⟨ρ', h1, h2⟩ := for_rng (g := gN v) (F := F) (s := s) P n 0 h0 fun i ρ _ hi hp => by
    obtain ⟨ρ2, a, b⟩ := step i ρ (by omega) hp
    refine ⟨_, ρ2, rfl, ?_, b⟩
    rw [show (0 : Int) + (i : Nat) = (i : Nat) by omega]
    exact a
  refine ⟨ρ', ?_, by rw [Nat.zero_add] at h2; exact h2⟩
  unfold forS
  rw [hi]
  show forL (gN v) F (rngD 0 n) ρ s = _
  unfold rngD
  rw [List.range_eq_range']
  exact h1
section
variable {e l k : Nat} {c : Cf} {m a q : Addr} {b : Nat}
/-- seen from the other side -/
def mirC (k : Nat) (c : Cf) : Cf := fun i j => (c j i).reverse.map fun x => (k : Int) - 1 - x
theorem mir_mir : mirC k (mirC k c) = c := by
  funext i j
  show ((((c i j).reverse.map fun x => (k : Int) - 1 - x).reverse).map fun x => (k : Int) - 1 - x) = _
  rw [← List.map_reverse, List.reverse_reverse, List.map_map]
  have : ((fun x => (k : Int) - 1 - x) ∘ fun x => (k : Int) - 1 - x) = id := by
    funext x
    show (k : Int) - 1 - ((k : Int) - 1 - x) = x
    omega
  rw [this, List.map_id]
theorem mir_ok (o : OkW e l k c) : OkW l e k (mirC k c) := ⟨o.l1, o.l2, o.r1, o.r2, o.k1, o.k2, fun i j hi hj => by
  obtain ⟨h1, h2, h3⟩ := o.ok j i hj hi
  refine ⟨fun z => ?_, ?_, fun x hx => ?_⟩
  · have : (c j i).reverse = [] := List.map_eq_nil_iff.mp z
    exact h1 (List.reverse_eq_nil_iff.mp this)
  · show ((c j i).reverse.map fun x => (k : Int) - 1 - x).Pairwise (· < ·)
    rw [List.pairwise_map, List.pairwise_reverse]
    exact h2.imp fun h => by omega
  · obtain ⟨y, hy, rfl⟩ := List.mem_map.mp hx
    have := h3 y (List.mem_reverse.mp hy)
    omega⟩
theorem ints_back (v : List Int) : ((intsD v).reverse.map fun d => match d with | .int x => D.int ((k : Int) - 1 - x) | d => d) = intsD (v.reverse.map fun x => (k : Int) - 1 - x) := by
  unfold intsD
  rw [← List.map_reverse, List.map_map, List.map_map]
  rfl
theorem len_ints (v : List Int) : (intsD v).length = v.length := List.length_map _
theorem cell_few (o : OkW e l k c) {i j : Nat} (hi : i < e) (hj : j < l) : (c i j).length ≤ 12 := by
  have := asc_len (o.ok i j hi hj).2.1 (fun x hx => (cell_in o hi hj hx)) (Int.natCast_nonneg k)
  have := o.k2
  omega
theorem cell_at' (s : S) {n1 n2 i j : Nat} (hi : i < e) (hj : j < l) (ρ : Slots) (h0 : ∀ s, vr 0 ρ s = .ok (wayD e l k c) s) (h6 : ∀ s, vr n1 ρ s = .ok (.int (i : Nat)) s) (h7 : ∀ s, vr n2 ρ s = .ok (.int (j : Nat)) s) :
    b2 ixF (b2 ixF (b1 (fldF 0 3) (vr 0)) (vr n1)) (vr n2) ρ s = .ok (.tup (intsD (c i j))) s := by
  have h := cell_at (e := e) (l := l) (k := k) (c := c) s hi hj [.fz (wayD e l k c), .no, .no, .no, .no, .no, .fz (.int (i : Nat)), .fz (.int (j : Nat))] (fun _ => rfl) (fun _ => rfl) (fun _ => rfl)
  rw [← h]
  unfold b2 b1
  rw [h0]
  show (((vr n1 ρ s).bind fun y s => ixF (tabDD e l c) y s).bind fun x s => (vr n2 ρ s).bind fun y s => ixF x y s) = ((ixF (tabDD e l c) (.int (i : Nat)) s).bind fun x s => ixF x (.int (j : Nat)) s)
  rw [h6]
  show ((ixF (tabDD e l c) (.int (i : Nat)) s).bind fun x s => (vr n2 ρ s).bind fun y s => ixF x y s) = _
  congr 1
  funext x s
  rw [h7]
  rfl
theorem seen_eq (o : OkW e l k c) {i j : Nat} (hi : i < e) (hj : j < l) (s : S) : runS p_Way__seen_places N_Way__seen_places.length [wayD e l k c, .int (i : Nat), .int (j : Nat)] s = .ok (.tup (intsD (mirC k c j i))) s := by
  obtain ⟨ρ, hρ⟩ : ∃ ρ : Slots, ρ = [.fz (wayD e l k c), .fz (.int (i : Nat)), .fz (.int (j : Nat)), .no] := ⟨_, rfl⟩
  have e0 : st0 N_Way__seen_places.length [wayD e l k c, .int (i : Nat), .int (j : Nat)] = ρ := hρ.symm ▸ rfl
  have all : allS ρ = ρ := by rw [hρ]; rfl
  have h1 : lcF (revI (b2 ixF (b2 ixF (b1 (fldF 0 3) (vr 0)) (vr 1)) (vr 2))) (gN 3) yesT (b2 (intF fun i j => .int (i - j)) (b2 (intF fun i j => .int (i - j)) (b1 (fldF 0 2) (vr 0)) (kst (.int 1))) (vr 3)) [3] ρ s = .ok (intsD (mirC k c j i)) s := by
    unfold lcF revI
    rw [cell_at' s hi hj ρ (fun s => by rw [hρ]; rfl) (fun s => by rw [hρ]; rfl) (fun s => by rw [hρ]; rfl)]
    show (if fits (intsD (c i j)).reverse.length = true then lcL (gN 3) yesT _ (wipeS ρ [3]) (intsD (c i j)).reverse s else .un) = _
    rw [if_pos (fits12 (by rw [List.length_reverse, len_ints]; exact cell_few o hi hj)), lc_map (g := fun d => match d with | .int x => D.int ((k : Int) - 1 - x) | d => d) _ s, ints_back]
    · rfl
    · intro d hd s
      obtain ⟨x, _, rfl⟩ := List.mem_map.mp (List.mem_reverse.mp hd)
      rw [hρ]
      rfl
  unfold runS
  rw [e0]
  unfold p_Way__seen_places retS
  rw [all]
  have hm : mkL (lcF (revI (b2 ixF (b2 ixF (b1 (fldF 0 3) (vr 0)) (vr 1)) (vr 2))) (gN 3) yesT (b2 (intF fun i j => .int (i - j)) (b2 (intF fun i j => .int (i - j)) (b1 (fldF 0 2) (vr 0)) (kst (.int 1))) (vr 3)) [3]) ρ s = .ok (.lst (intsD (mirC k c j i))) s := by
    unfold mkL
    rw [h1]
    rfl
  rw [bC1 hm]
  rfl
def lastS : Nat → Sl
  | 0 => .no
  | i + 1 => .fz (.int (i : Nat))
def mw_body : Slots → S → R Fl := appS 1 (bC tupleF (cnsA (mkL (lcF (rgI rg1F (cnsA (b1 (fldF 0 0) (vr 0)) nilA)) (gN 3) yesT (metF 0 3 (runS p_Way__seen_places N_Way__seen_places.length) (vr 0) (cnsA (vr 3) (cnsA (vr 2) nilA))) [3])) nilA))
theorem rng_cells (e : Nat) (f : Nat → List Int) : ((rngD 0 e).map fun d => match d with | .int x => D.tup (intsD (f x.toNat)) | d => d) = cellsD e f := by
  unfold rngD cellsD
  rw [List.map_map]
  refine List.map_congr_left fun i _ => ?_
  show D.tup (intsD (f ((0 : Int) + (i : Nat)).toNat)) = _
  rw [show ((0 : Int) + (i : Nat)).toNat = i by omega]
theorem mem_rng {e : Nat} {d : D} (h : d ∈ rngD 0 e) : ∃ i, i < e ∧ d = .int (i : Nat) := by
  unfold rngD at h
  obtain ⟨i, hi, rfl⟩ := List.mem_map.mp h
  exact ⟨i, List.mem_range.mp hi, by rw [show (0 : Int) + (i : Nat) = (i : Nat) by omega]⟩
theorem mw_step (o : OkW e l k c) {j : Nat} (hj : j < l) (rows : List D) (hr : rows.length ≤ 1000) (s : S) :
    mw_body [.fz (wayD e l k c), .ow (.ls rows), .fz (.int (j : Nat)), .no] s = .ok (.nx [.fz (wayD e l k c), .ow (.ls (rows ++ [.tup (cellsD e (mirC k c j))])), .fz (.int (j : Nat)), .no]) s := by
  obtain ⟨ρ, hρ⟩ : ∃ ρ : Slots, ρ = [.fz (wayD e l k c), .ow (.ls rows), .fz (.int (j : Nat)), .no] := ⟨_, rfl⟩
  have r2 := o.r2
  have h1 : lcF (rgI rg1F (cnsA (b1 (fldF 0 0) (vr 0)) nilA)) (gN 3) yesT (metF 0 3 (runS p_Way__seen_places N_Way__seen_places.length) (vr 0) (cnsA (vr 3) (cnsA (vr 2) nilA))) [3] ρ s = .ok (cellsD e (mirC k c j)) s := by
    unfold lcF
    rw [rg_of (n := e) (by rw [hρ]; rfl) (by omega)]
    show (if fits (rngD 0 e).length = true then lcL (gN 3) yesT _ (wipeS ρ [3]) (rngD 0 e) s else .un) = _
    rw [if_pos (fits12 (by rw [rngD_len]; omega)), lc_map (g := fun d => match d with | .int x => D.tup (intsD (mirC k c j x.toNat)) | d => d) _ s, rng_cells]
    intro d hd s
    obtain ⟨i, hi, rfl⟩ := mem_rng hd
    rw [hρ]
    show (if 0 = 0 then (nF 3 (runS p_Way__seen_places N_Way__seen_places.length) [wayD e l k c, .int (i : Nat), .int (j : Nat)] s : R D) else .un) = _
    rw [if_pos rfl]
    unfold nF
    rw [if_pos (by rfl), seen_eq o hi hj]
    rfl
  have hm : mkL (lcF (rgI rg1F (cnsA (b1 (fldF 0 0) (vr 0)) nilA)) (gN 3) yesT (metF 0 3 (runS p_Way__seen_places N_Way__seen_places.length) (vr 0) (cnsA (vr 3) (cnsA (vr 2) nilA))) [3]) ρ s = .ok (.lst (cellsD e (mirC k c j))) s := by
    unfold mkL
    rw [h1]
    rfl
  have ht := bC1 (op := tupleF) hm
  rw [← hρ]
  unfold mw_body appS
  rw [ht, hρ]
  show (if fits (rows.length + 1) = true then R.ok (Fl.nx [.fz (wayD e l k c), .ow (.ls (rows ++ [D.tup (cellsD e (mirC k c j))])), .fz (.int (j : Nat)), .no]) s else R.un) = _
  rw [if_pos (show fits (rows.length + 1) = true from decide_eq_true (by omega))]
theorem rowsD_len (i : Nat) (f : Cf) : (rowsD i l f).length = i := by
  unfold rowsD
  rw [List.length_map, List.length_range]
theorem mirrored_eq (o : OkW e l k c) (s : S) : runS p_Way_mirrored N_Way_mirrored.length [wayD e l k c] s = .ok (wayD l e k (mirC k c)) s := by
  have e0 : st0 N_Way_mirrored.length [wayD e l k c] = [.fz (wayD e l k c), .no, .no, .no] := rfl
  have l2 := o.l2
  obtain ⟨ρ', f1, x, hx⟩ := for_rg (v := 2) (F := mw_body) (fi := rgI rg1F (cnsA (b1 (fldF 0 1) (vr 0)) nilA)) (ρ := [.fz (wayD e l k c), .ow (.ls []), .no, .no]) (s := s) (n := l) (fun j ρ => ∃ x, ρ = [.fz (wayD e l k c), .ow (.ls (rowsD j e (mirC k c))), x, .no]) (rg_of rfl (by omega)) ⟨.no, rfl⟩
    fun j ρ hj ⟨x, hx⟩ => by
      subst hx
      exact ⟨_, mw_step o hj _ (by rw [rowsD_len]; omega) s, .fz (.int (j : Nat)), by rw [rowsD_succ]⟩
  unfold runS
  rw [e0]
  have p : p_Way_mirrored = seqS (setW 1 (litL nilA)) (seqS (forS (rgI rg1F (cnsA (b1 (fldF 0 1) (vr 0)) nilA)) (gN 2) mw_body) (retS (bC (nF 2 (tell P_with)) (cnsA (b1 (fldF 0 2) (vr 0)) (cnsA (bC tupleF (cnsA (vr 1) nilA)) nilA))))) := by
    unfold p_Way_mirrored
    rfl
  have w1 : setW 1 (litL nilA) [.fz (wayD e l k c), .no, .no, .no] s = .ok (.nx [.fz (wayD e l k c), .ow (.ls []), .no, .no]) s := rfl
  rw [p, seq_nx w1, seq_nx f1, hx]
  have a1 : ∀ y : Sl, cnsA (b1 (fldF 0 2) (vr 0)) (cnsA (bC tupleF (cnsA (vr 1) nilA)) nilA) (allS [.fz (wayD e l k c), .ow (.ls (rowsD l e (mirC k c))), y, .no]) s = .ok [.int (k : Nat), tabDD l e (mirC k c)] s := fun y => by
    rw [tab_rows]
    rfl
  unfold retS
  rw [bC_of (a1 _)]
  unfold nF
  rw [if_pos (by rfl), with_eq s (mir_ok o)]
  rfl
theorem net_ixv (v n : Nat) (x : Int) (h : ∀ s, ixF (.tup [.int (e : Nat), .int (l : Nat), .int (k : Nat), .rls (netRows e l c)]) (.int (n : Nat)) s = .ok (.int x) s) (ρ : Slots) (h1 : ∀ s, vr v ρ s = .ok (netDD e l k c) s) (s : S) : b2 ixF (vr v) (kst (.int (n : Nat))) ρ s = .ok (.int x) s := by
  unfold b2
  rw [h1, net_eq]
  exact h s
/-! ### _law_turned -/
def tu_in : Slots → S → R Fl := appS 3 (bC tupleF (cnsA (mkL (lcF (seqI (b1 backF (b2 ixF (b2 ixF (b2 ixF (vr 0) (kst (.int 3))) (vr 4)) (vr 2)))) (gN 5) yesT (b2 (intF fun i j => .int (i - j)) (b2 (intF fun i j => .int (i - j)) (b2 ixF (vr 0) (kst (.int 2))) (kst (.int 1))) (vr 5)) [5])) nilA))
def tu_out : Slots → S → R Fl := seqS (setW 3 (litL nilA)) (seqS (forS (rgI rg1F (cnsA (b2 ixF (vr 0) (kst (.int 0))) nilA)) (gN 4) tu_in) (appO 1 3))
def tu_ret : Slots → S → R Fl := retS (bC tupF (cnsA (b2 ixF (vr 0) (kst (.int 1))) (cnsA (b2 ixF (vr 0) (kst (.int 0))) (cnsA (b2 ixF (vr 0) (kst (.int 2))) (cnsA (vr 1) nilA)))))
theorem p_turned_eq : p__law_turned = seqS (setW 1 (litL nilA)) (seqS (forS (rgI rg1F (cnsA (b2 ixF (vr 0) (kst (.int 1))) nilA)) (gN 2) tu_out) tu_ret) := rfl
def rT (e l k : Nat) (c : Cf) (rows : List D) (x2 x3 x4 : Sl) : Slots := [.fz (netDD e l k c), .ow (.ls rows), x2, x3, x4, .no]
theorem net_cell (i j : Nat) (hi : i < e) (hj : j < l) (s : S) : ((ixF (netDD e l k c) (.int 3) s).bind fun x s => (ixF x (.int (i : Nat)) s).bind fun x s => ixF x (.int (j : Nat)) s) = .ok (.tup (intsD (c i j))) s := by
  rw [net_eq]
  show ((ixF (.rls (netRows e l c)) (.int (i : Nat)) s).bind fun x s => ixF x (.int (j : Nat)) s) = _
  have r1 : (netRows e l c)[i]? = some (.rls (cellsD l (c i))) := by
    unfold netRows
    rw [List.getElem?_map, List.getElem?_range hi]
    rfl
  have r2 : (cellsD l (c i))[j]? = some (.tup (intsD (c i j))) := by
    unfold cellsD
    rw [List.getElem?_map, List.getElem?_range hj]
    rfl
  have e1 : ixF (.rls (netRows e l c)) (.int (i : Nat)) s = .ok (.rls (cellsD l (c i))) s := by
    show (match L2.atI (netRows e l c) (i : Int) with | some d => R.ok d s | none => .un) = _
    rw [atI_nat' r1]
  rw [e1]
  show (match L2.atI (cellsD l (c i)) (j : Int) with | some d => R.ok d s | none => .un) = _
  rw [atI_nat' r2]
theorem tu_step (o : OkW e l k c) {i j : Nat} (hi : i < e) (hj : j < l) (rows cs : List D) (hc : cs.length ≤ 1000) (s : S) :
    tu_in (rT e l k c rows (.fz (.int (j : Nat))) (.ow (.ls cs)) (.fz (.int (i : Nat)))) s = .ok (.nx (rT e l k c rows (.fz (.int (j : Nat))) (.ow (.ls (cs ++ [.tup (intsD (mirC k c j i))]))) (.fz (.int (i : Nat))))) s := by
  obtain ⟨ρ, hρ⟩ : ∃ ρ : Slots, ρ = rT e l k c rows (.fz (.int (j : Nat))) (.ow (.ls cs)) (.fz (.int (i : Nat))) := ⟨_, rfl⟩
  have hb : b1 backF (b2 ixF (b2 ixF (b2 ixF (vr 0) (kst (.int 3))) (vr 4)) (vr 2)) ρ s = .ok (.tup (intsD (c i j)).reverse) s := by
    have h := net_cell (k := k) (c := c) i j hi hj s
    have h2 : b2 ixF (b2 ixF (b2 ixF (vr 0) (kst (.int 3))) (vr 4)) (vr 2) ρ s = .ok (.tup (intsD (c i j))) s := by
      rw [← h, hρ]
      unfold b2
      show (R.bind (R.bind (ixF (netDD e l k c) (.int 3) s) fun x s => ixF x (.int (i : Nat)) s) fun x s => ixF x (.int (j : Nat)) s) = _
      rw [bind_assoc']
    unfold b1
    rw [h2]
    rfl
  have h1 : lcF (seqI (b1 backF (b2 ixF (b2 ixF (b2 ixF (vr 0) (kst (.int 3))) (vr 4)) (vr 2)))) (gN 5) yesT (b2 (intF fun i j => .int (i - j)) (b2 (intF fun i j => .int (i - j)) (b2 ixF (vr 0) (kst (.int 2))) (kst (.int 1))) (vr 5)) [5] ρ s = .ok (intsD (mirC k c j i)) s := by
    unfold lcF seqI
    rw [hb]
    show (if fits (intsD (c i j)).reverse.length = true then lcL (gN 5) yesT _ (wipeS ρ [5]) (intsD (c i j)).reverse s else .un) = _
    rw [if_pos (fits12 (by rw [List.length_reverse, len_ints]; exact cell_few o hi hj)), lc_map (g := fun d => match d with | .int x => D.int ((k : Int) - 1 - x) | d => d) _ s, ints_back]
    · rfl
    · intro d hd s
      obtain ⟨x, _, rfl⟩ := List.mem_map.mp (List.mem_reverse.mp hd)
      rw [hρ]
      unfold b2
      show (R.bind (R.bind (ixF (netDD e l k c) (.int 2) s) fun x s => intF (fun i j => .int (i - j)) x (.int 1) s) fun z s => intF (fun i j => .int (i - j)) z (.int x) s : R D) = _
      rw [net_eq]
      rfl
  have hm : mkL (lcF (seqI (b1 backF (b2 ixF (b2 ixF (b2 ixF (vr 0) (kst (.int 3))) (vr 4)) (vr 2)))) (gN 5) yesT (b2 (intF fun i j => .int (i - j)) (b2 (intF fun i j => .int (i - j)) (b2 ixF (vr 0) (kst (.int 2))) (kst (.int 1))) (vr 5)) [5]) ρ s = .ok (.lst (intsD (mirC k c j i))) s := by
    unfold mkL
    rw [h1]
    rfl
  have ht := bC1 (op := tupleF) hm
  rw [← hρ]
  unfold tu_in appS
  rw [ht, hρ]
  show (if fits (cs.length + 1) = true then R.ok (Fl.nx (rT e l k c rows (.fz (.int (j : Nat))) (.ow (.ls (cs ++ [D.tup (intsD (mirC k c j i))]))) (.fz (.int (i : Nat))))) s else R.un) = _
  rw [if_pos (show fits (cs.length + 1) = true from decide_eq_true (by omega))]
theorem rowsLD_succ (i : Nat) (f : Cf) : rowsLD (i + 1) l f = rowsLD i l f ++ [.lst (cellsD l (f i))] := by
  unfold rowsLD
  rw [List.range_succ, List.map_append]
  rfl
theorem rowsLD_len (i : Nat) (f : Cf) : (rowsLD i l f).length = i := by
  unfold rowsLD
  rw [List.length_map, List.length_range]
theorem tu_turn (o : OkW e l k c) {j : Nat} (hj : j < l) (rows : List D) (hr : rows.length ≤ 1000) (x3 x4 : Sl) (s : S) :
    ∃ x4', tu_out (rT e l k c rows (.fz (.int (j : Nat))) x3 x4) s = .ok (.nx (rT e l k c (rows ++ [.lst (cellsD e (mirC k c j))]) (.fz (.int (j : Nat))) (.fz (.lst (cellsD e (mirC k c j)))) x4')) s := by
  have r2 := o.r2
  have w1 : setW 3 (litL nilA) (rT e l k c rows (.fz (.int (j : Nat))) x3 x4) s = .ok (.nx (rT e l k c rows (.fz (.int (j : Nat))) (.ow (.ls [])) x4)) s := rfl
  have hi : rgI rg1F (cnsA (b2 ixF (vr 0) (kst (.int 0))) nilA) (rT e l k c rows (.fz (.int (j : Nat))) (.ow (.ls [])) x4) s = .ok (rngD 0 e) s := rg_of (n := e) (net_ixv 0 0 e (fun _ => rfl) _ (fun _ => rfl) s) (by omega)
  obtain ⟨ρ', f1, x, hx⟩ := for_rg (v := 4) (F := tu_in) (fun i ρ => ∃ x, ρ = rT e l k c rows (.fz (.int (j : Nat))) (.ow (.ls (cellsD i (mirC k c j)))) x) hi ⟨x4, rfl⟩
    fun i ρ hi ⟨x, hx⟩ => by
      subst hx
      exact ⟨_, tu_step o hi hj rows (cellsD i (mirC k c j)) (by unfold cellsD; rw [List.length_map, List.length_range]; omega) s, .fz (.int (i : Nat)), by rw [cellsD_succ]⟩
  subst hx
  refine ⟨x, ?_⟩
  unfold tu_out
  rw [seq_nx w1, seq_nx f1]
  show (if fits (rows.length + 1) = true then R.ok (Fl.nx (rT e l k c (rows ++ [D.lst (cellsD e (mirC k c j))]) (.fz (.int (j : Nat))) (.fz (.lst (cellsD e (mirC k c j)))) x)) s else R.un) = _
  rw [if_pos (show fits (rows.length + 1) = true from decide_eq_true (by omega))]
theorem turned_eq (o : OkW e l k c) (s : S) : runS p__law_turned N__law_turned.length [netDD e l k c] s = .ok (.tup [.int (l : Nat), .int (e : Nat), .int (k : Nat), .lst (rowsLD l e (mirC k c))]) s := by
  have l2 := o.l2
  have e0 : st0 N__law_turned.length [netDD e l k c] = [.fz (netDD e l k c), .no, .no, .no, .no, .no] := rfl
  have w1 : setW 1 (litL nilA) [.fz (netDD e l k c), .no, .no, .no, .no, .no] s = .ok (.nx (rT e l k c [] .no .no .no)) s := rfl
  have hi : rgI rg1F (cnsA (b2 ixF (vr 0) (kst (.int 1))) nilA) (rT e l k c [] .no .no .no) s = .ok (rngD 0 l) s := rg_of (n := l) (net_ixv 0 1 l (fun _ => rfl) _ (fun _ => rfl) s) (by omega)
  obtain ⟨ρ', f1, x2, x3, x4, hx⟩ := for_rg (v := 2) (F := tu_out) (fun j ρ => ∃ x2 x3 x4, ρ = rT e l k c (rowsLD j e (mirC k c)) x2 x3 x4) hi ⟨.no, .no, .no, rfl⟩
    fun j ρ hj ⟨x2, x3, x4, hx⟩ => by
      subst hx
      obtain ⟨x4', h⟩ := tu_turn o hj (rowsLD j e (mirC k c)) (by rw [rowsLD_len]; omega) x3 x4 s
      exact ⟨_, h, _, _, x4', by rw [rowsLD_succ]⟩
  subst hx
  unfold runS
  rw [e0, p_turned_eq, seq_nx w1, seq_nx f1]
  have i1 : b2 ixF (vr 0) (kst (.int 1)) (allS (rT e l k c (rowsLD l e (mirC k c)) x2 x3 x4)) s = .ok (.int (l : Nat)) s := net_ixv 0 1 l (fun _ => rfl) _ (fun _ => rfl) s
  have i0 : b2 ixF (vr 0) (kst (.int 0)) (allS (rT e l k c (rowsLD l e (mirC k c)) x2 x3 x4)) s = .ok (.int (e : Nat)) s := net_ixv 0 0 e (fun _ => rfl) _ (fun _ => rfl) s
  have i2 : b2 ixF (vr 0) (kst (.int 2)) (allS (rT e l k c (rowsLD l e (mirC k c)) x2 x3 x4)) s = .ok (.int (k : Nat)) s := net_ixv 0 2 k (fun _ => rfl) _ (fun _ => rfl) s
  have v1 : vr 1 (allS (rT e l k c (rowsLD l e (mirC k c)) x2 x3 x4)) s = .ok (.lst (rowsLD l e (mirC k c))) s := rfl
  have cns : ∀ {f : Slots → S → R D} {g : Slots → S → R (List D)} {ρ : Slots} {d : D} {ds : List D}, f ρ s = .ok d s → g ρ s = .ok ds s → cnsA f g ρ s = .ok (d :: ds) s := fun {f g ρ d ds} h1 h2 => by
    unfold cnsA
    rw [h1]
    show (g ρ s).bind _ = _
    rw [h2]
    rfl
  unfold tu_ret retS
  rw [bC_of (cns i1 (cns i0 (cns i2 (cns v1 rfl))))]
  rfl
end
end W2

set_option maxHeartbeats 1000000
/-! PyG: _law_mirrored_right is true. -/
namespace W2
open PySem PySem.Spec PyProof.Rows L2 Pg Pf LamX Pp Tab Rul
section
variable {e l k : Nat} {c : Cf} {m a q : Addr} {b : Nat}
theorem tup_rows' (e l : Nat) (c : Cf) (he : e ≤ 6) {g : Slots → S → R D} {ρ : Slots} {r : Nat} {s : S} (h3 : g ρ s = .ok (.lst (rowsLD e l c)) s) (hr : r < ρ.length) :
    bC tupleF (cnsA (mkL (lcF (seqI g) (gN r) yesT (bC tupleF (cnsA (vr r) nilA)) [r])) nilA) ρ s = .ok (tabDD e l c) s := by
  have hl : lcF (seqI g) (gN r) yesT (bC tupleF (cnsA (vr r) nilA)) [r] ρ s = .ok (rowsD e l c) s := by
    unfold lcF seqI
    rw [h3]
    show (if fits (rowsLD e l c).length = true then lcL (gN r) yesT (bC tupleF (cnsA (vr r) nilA)) (wipeS ρ [r]) (rowsLD e l c) s else .un) = _
    rw [if_pos (fits12 (by unfold rowsLD; rw [List.length_map, List.length_range]; omega)), lc_map (g := fun d => match d with | .lst ds => .tup ds | d => d) (rowsLD e l c) s]
    · congr 1
      unfold rowsLD rowsD
      rw [List.map_map]
      rfl
    · intro d hd s
      unfold rowsLD at hd
      obtain ⟨i, _, rfl⟩ := List.mem_map.mp hd
      have hv : vr r ((wipeS ρ [r]).set r (.fz (.lst (cellsD l (c i))))) s = .ok (.lst (cellsD l (c i))) s := by
        unfold vr
        rw [List.getElem?_set_self (by show r < (ρ.set r .no).length; rw [List.length_set]; exact hr)]
      rw [bC1 hv]
      rfl
  have hm : mkL (lcF (seqI g) (gN r) yesT (bC tupleF (cnsA (vr r) nilA)) [r]) ρ s = .ok (.lst (rowsD e l c)) s := by
    unfold mkL
    rw [hl]
    rfl
  rw [bC1 hm, tab_rows]
  rfl
def rR (e l k : Nat) (c : Cf) (x2 x3 : Sl) : Slots := [.fz (netDD e l k c), .fz (wayD e l k c), x2, x3, .no]
noncomputable def m_mir (f : Slots → S → R D) : Slots → S → R D := metF 0 1 (runS p_Way_mirrored N_Way_mirrored.length) f nilA
noncomputable def m_far : Slots → S → R Fl := setF 2 (bC (nF 1 (runS p__law_turned N__law_turned.length)) (cnsA (vr 0) nilA))
def m_due : Slots → S → R Fl := setF 3 (bC tupleF (cnsA (mkL (lcF (seqI (b2 ixF (vr 2) (kst (.int 3)))) (gN 4) yesT (bC tupleF (cnsA (vr 4) nilA)) [4])) nilA))
noncomputable def m_if : Slots → S → R Fl := ifS (bor (tst (b2 (strF true) (bC reprF (cnsA (b1 (fldF 0 3) (m_mir (vr 1))) nilA)) (bC reprF (cnsA (vr 3) nilA)))) (tst (b2 (fun x y s => tell (P_eqw true) [x, y] s) (m_mir (m_mir (vr 1))) (vr 1)))) (retS (kst (.bl false))) nxS
noncomputable def m_ret : Slots → S → R Fl := retS (b2 eqF (mkL (litL (cnsA (b1 (fldF 0 0) (m_mir (vr 1))) (cnsA (b1 (fldF 0 1) (m_mir (vr 1))) (cnsA (b1 (fldF 0 2) (m_mir (vr 1))) nilA))))) (bC listF (cnsA (slX (vr 2) noO (soO (kst (.int 3)))) nilA)))
theorem p_mir_eq : p__law_mirrored_right = seqS m_far (seqS m_due (seqS m_if m_ret)) := by
  unfold p__law_mirrored_right
  rfl
theorem metF_ok {c n : Nat} {F : List D → S → R D} {f : Slots → S → R D} {fa : Slots → S → R (List D)} {ρ : Slots} {s s' s'' : S} {es xs : List D} (h : f ρ s = .ok (.obj c es) s') (h2 : fa ρ s' = .ok xs s'') : metF c n F f fa ρ s = nF n F (.obj c es :: xs) s'' := by
  unfold metF
  rw [h]
  show (if c = c then (fa ρ s').bind fun xs s => nF n F (.obj c es :: xs) s else .un) = _
  rw [if_pos rfl, h2]
  rfl
theorem mir_of (o : OkW e l k c) {f : Slots → S → R D} {ρ : Slots} {s : S} (h : f ρ s = .ok (wayD e l k c) s) : m_mir f ρ s = .ok (wayD l e k (mirC k c)) s := by
  unfold m_mir
  rw [metF_ok (c := 0) h (show nilA ρ s = .ok [] s from rfl)]
  exact (nF_of (n := 1) (ds := [wayD e l k c]) rfl).trans (mirrored_eq o s)
theorem neqw_self (o : OkW e l k c) (s : S) : tell (P_eqw true) [wayD e l k c, wayD e l k c] s = .ok (.bl false) s := by
  refine tell_of ⟨e, l, k, e, l, k, c, c, rfl, o, o, by rw [if_pos rfl, decide_eq_true rfl, decide_eq_true rfl]; rfl⟩ fun r' ⟨f, g, h, f', g', h', d, d', hh, _, _, q⟩ => ?_
  injection hh with h1 hh
  injection hh with h2 _
  obtain ⟨rfl, rfl, rfl, t1⟩ := wayD_inj h1
  obtain ⟨rfl, rfl, rfl, t2⟩ := wayD_inj h2
  rw [q, ← t1, ← t2, if_pos rfl, decide_eq_true rfl, decide_eq_true rfl]
  rfl
theorem cns_ok {f : Slots → S → R D} {g : Slots → S → R (List D)} {ρ : Slots} {s s' s'' : S} {d : D} {ds : List D} (h1 : f ρ s = .ok d s') (h2 : g ρ s' = .ok ds s'') : cnsA f g ρ s = .ok (d :: ds) s'' := by
  unfold cnsA
  rw [h1]
  show (g ρ s').bind _ = _
  rw [h2]
  rfl
theorem b1_ok {op : D → S → R D} {f : Slots → S → R D} {ρ : Slots} {s s' : S} {d : D} (h : f ρ s = .ok d s') : b1 op f ρ s = op d s' := by
  unfold b1
  rw [h]
  rfl
theorem b2_ok {op : D → D → S → R D} {f g : Slots → S → R D} {ρ : Slots} {s s' s'' : S} {d x : D} (h : f ρ s = .ok d s') (h2 : g ρ s' = .ok x s'') : b2 op f g ρ s = op d x s'' := by
  unfold b2
  rw [h]
  show (g ρ s').bind _ = _
  rw [h2]
  rfl
theorem lit_ok {f : Slots → S → R (List D)} {ρ : Slots} {s s' : S} {ds : List D} (h : f ρ s = .ok ds s') (l : ds.length ≤ 12) : mkL (litL f) ρ s = .ok (.lst ds) s' := by
  unfold mkL litL
  rw [h]
  show ((if fits ds.length = true then R.ok ds s' else .un).bind fun ds s => R.ok (D.lst ds) s : R D) = _
  rw [if_pos (fits12 l)]
  rfl
theorem set_ok {i : Nat} {f : Slots → S → R D} {ρ : Slots} {s s' : S} {d : D} (h : f ρ s = .ok d s') : setF i f ρ s = .ok (.nx (ρ.set i (.fz d))) s' := by
  unfold setF
  rw [h]
  rfl
theorem ret_ok {f : Slots → S → R D} {ρ : Slots} {s s' : S} {d : D} (h : f (allS ρ) s = .ok d s') : retS f ρ s = .ok (.rt d) s' := by
  unfold retS
  rw [h]
  rfl
theorem tst_ok {f : Slots → S → R D} {ρ : Slots} {s s' : S} {v : Bool} (h : f ρ s = .ok (.bl v) s') : tst f ρ s = .ok v s' := by
  unfold tst
  rw [h]
  rfl
theorem mirrored_right_true (o : OkW e l k c) (s : S) : runS p__law_mirrored_right N__law_mirrored_right.length [netDD e l k c, wayD e l k c] s = .ok (.bl true) s := by
  have oM := mir_ok o
  have e0 : st0 N__law_mirrored_right.length [netDD e l k c, wayD e l k c] = rR e l k c .no .no := rfl
  unfold runS
  rw [e0, p_mir_eq]
  obtain ⟨far, hfar⟩ : ∃ far : D, far = .tup [.int (l : Nat), .int (e : Nat), .int (k : Nat), .lst (rowsLD l e (mirC k c))] := ⟨_, rfl⟩
  have f1 : m_far (rR e l k c .no .no) s = .ok (.nx (rR e l k c (.fz far) .no)) s := by
    have h : bC (nF 1 (runS p__law_turned N__law_turned.length)) (cnsA (vr 0) nilA) (rR e l k c .no .no) s = .ok far s := by
      rw [bC1 (f := vr 0) (d := netDD e l k c) (s' := s) rfl]
      unfold nF
      rw [if_pos (by rfl), turned_eq o, hfar]
    exact set_ok h
  have f2 : m_due (rR e l k c (.fz far) .no) s = .ok (.nx (rR e l k c (.fz far) (.fz (tabDD l e (mirC k c))))) s := by
    refine set_ok (tup_rows' l e (mirC k c) o.l2 ?_ (by show 4 < 5; decide))
    rw [hfar]
    rfl
  rw [seq_nx f1, seq_nx f2]
  obtain ⟨ρ, hρ⟩ : ∃ ρ : Slots, ρ = rR e l k c (.fz far) (.fz (tabDD l e (mirC k c))) := ⟨_, rfl⟩
  have all : allS ρ = ρ := by rw [hρ]; rfl
  have v1 : vr 1 ρ s = .ok (wayD e l k c) s := by rw [hρ]; rfl
  have v3 : vr 3 ρ s = .ok (tabDD l e (mirC k c)) s := by rw [hρ]; rfl
  have mi := mir_of o v1
  have mm := mir_of oM mi
  rw [mir_mir] at mm
  have rp : reprF [tabDD l e (mirC k c)] s = .ok (.str (tabDD l e (mirC k c)).py.shown) s := if_pos (repr_tab oM)
  have t1 : tst (b2 (strF true) (bC reprF (cnsA (b1 (fldF 0 3) (m_mir (vr 1))) nilA)) (bC reprF (cnsA (vr 3) nilA))) ρ s = .ok false s := by
    have g1 : b1 (fldF 0 3) (m_mir (vr 1)) ρ s = .ok (tabDD l e (mirC k c)) s := by
      rw [b1_ok mi]
      rfl
    have r1 := bC1 (op := reprF) g1
    have r2 := bC1 (op := reprF) v3
    rw [rp] at r1 r2
    refine tst_ok ?_
    rw [b2_ok r1 r2, ne_str]
  have t2 : tst (b2 (fun x y s => tell (P_eqw true) [x, y] s) (m_mir (m_mir (vr 1))) (vr 1)) ρ s = .ok false s := by
    refine tst_ok ?_
    rw [b2_ok mm v1]
    exact neqw_self o s
  have f3 : m_if ρ s = .ok (.nx ρ) s := by
    unfold m_if ifS bor
    rw [all, t1]
    show ((if false = true then R.ok true s else _ : R Bool).bind _ : R Fl) = _
    rw [if_neg Bool.false_ne_true, t2]
    rfl
  rw [← hρ, seq_nx f3]
  have g : ∀ n d, fldF 0 n (wayD l e k (mirC k c)) s = .ok d s → b1 (fldF 0 n) (m_mir (vr 1)) ρ s = .ok d s := fun n d h => by
    rw [b1_ok mi]
    exact h
  have l1 := lit_ok (cns_ok (g 0 (.int (l : Nat)) rfl) (cns_ok (g 1 (.int (e : Nat)) rfl) (cns_ok (g 2 (.int (k : Nat)) rfl) (show nilA ρ s = .ok [] s from rfl)))) (by show 3 ≤ 12; decide)
  have l2 : bC listF (cnsA (slX (vr 2) noO (soO (kst (.int 3)))) nilA) ρ s = .ok (.lst (intsD [(l : Int), (e : Int), (k : Int)])) s := by
    rw [hρ, hfar]
    rfl
  have fin : m_ret ρ s = .ok (.rt (.bl true)) s := by
    refine ret_ok ?_
    rw [all, b2_ok l1 l2]
    exact eq_same [(l : Int), (e : Int), (k : Int)] s
  rw [fin]
  rfl
end
end W2

set_option maxHeartbeats 1000000
/-! PyH: _law_mixed_up, _law_many_right. -/
namespace W2
open PySem PySem.Spec PyProof.Rows L2 Pg Pf LamX Pp Tab Rul
section
variable {e l k : Nat} {c : Cf} {m a q : Addr} {b : Nat}
theorem allow_eq (o : OkW e l k c) {i j : Nat} (hi : i < e) (hj : j < l) (s : S) : tell P_allow [wayD e l k c, .int (i : Nat), .int (j : Nat)] s = .ok (.tup (intsD (c i j))) s := by
  refine tell_of ⟨e, l, k, i, j, c, rfl, o, hi, hj, rfl⟩ fun r' ⟨e', l', k', i', j', c', h, o', hi', hj', q⟩ => ?_
  injection h with h1 h
  injection h with h2 h
  injection h with h3 _
  injection h2 with h2
  injection h3 with h3
  obtain ⟨rfl, rfl, rfl, t⟩ := wayD_inj h1
  obtain rfl : i = i' := by omega
  obtain rfl : j = j' := by omega
  have r1 := tabF_at (l := l) (c := c) hi
  have r2 := tabF_at (l := l) (c := c') hi
  rw [t, r2] at r1
  have r3 := Option.some.inj r1
  have r4 := rowF_at (f := fun j => c i j) hj
  have r5 := rowF_at (f := fun j => c' i j) hj
  rw [← r3, r5] at r4
  rw [q, Option.some.inj r4]
theorem neq_self {x : D} (h1 : x.isPy = true) (h2 : SeqAt.shaped x.py = true) (s : S) : neqF x x s = .ok (.bl false) s := by
  unfold neqF eqOk
  rw [h1, h2, eqv_rfl _ (SeqAt.canLay_of_shaped h2)]
  rfl
theorem neq_tab (o : OkW e l k c) (s : S) : neqF (tabDD e l c) (tabDD e l c) s = .ok (.bl false) s := by
  obtain ⟨p1, p2⟩ := py_tab e l c
  exact neq_self p2 (by rw [p1]; exact (fine_way o).shaped (by decide)) s
/-! ### _law_mixed_up -/
def rX (m : Addr) (x1 : Sl) (stock found : List Int) (x4 : Sl) : Slots := [.fz (.adr m), x1, .ow (.ls (intsD stock)), .ow (.ls (intsD found)), x4]
def mx_body : Slots → S → R Fl := popS 3 2 (bC F_draw (cnsA (vr 0) (cnsA (lenO 2) nilA)))
theorem erase_ints (ns : List Int) (n : Nat) : (intsD ns).eraseIdx n = intsD (ns.eraseIdx n) := by
  unfold intsD
  induction ns generalizing n with
  | nil => simp
  | cons x xs ih =>
    cases n with
    | zero => rfl
    | succ n =>
      show D.int x :: (xs.map D.int).eraseIdx n = D.int x :: _
      rw [ih]
theorem perm_erase : ∀ (l : List Int) (i : Nat) (h : i < l.length), (l[i] :: l.eraseIdx i).Perm l
  | [], i, h => by simp at h
  | x :: xs, 0, h => List.Perm.refl _
  | x :: xs, i + 1, h => by
    have h' : i < xs.length := by
      rw [List.length_cons] at h
      omega
    exact (List.Perm.swap _ _ _).trans ((perm_erase xs i h').cons x)
theorem mx_step (x1 x4 : Sl) (stock found : List Int) (h1 : 1 ≤ stock.length) (h2 : stock.length + found.length ≤ 12) (hb : b ≤ 1000000) :
    Al (fun f s => ∃ i : Nat, ∃ hi : i < stock.length, f = .nx (rX m x1 (stock.eraseIdx i) (found ++ [stock[i]]) x4) ∧ s = ms m a q (b + 1)) (mx_body (rX m x1 stock found x4) (ms m a q b)) := by
  have e1 : bC F_draw (cnsA (vr 0) (cnsA (lenO 2) nilA)) (rX m x1 stock found x4) (ms m a q b) = F_draw [.adr m, .int ((stock.length : Nat) : Int)] (ms m a q b) := by
    refine bC_of ?_
    show (R.ok [D.adr m, .int (((intsD stock).length : Nat) : Int)] (ms m a q b) : R (List D)) = _
    rw [len_ints]
  unfold mx_body popS
  show Al _ ((bC F_draw (cnsA (vr 0) (cnsA (lenO 2) nilA)) (rX m x1 stock found x4) (ms m a q b)).bind fun d s => match d with
    | .int k => match L2.atI (intsD stock) k with
      | some y => if 0 ≤ k ∧ fits ((intsD found).length + 1) = true ∧ (intsD stock).length ≤ 1000 then R.ok (Fl.nx (((rX m x1 stock found x4).set 2 (.ow (.ls ((intsD stock).eraseIdx k.toNat)))).set 3 (.ow (.ls (intsD found ++ [y]))))) s else .un
      | none => .un
    | _ => .un)
  rw [e1]
  refine Al.bind (al_draw (by omega) (by omega) hb) fun d s ⟨⟨i, e2, i0, i1⟩, e3⟩ => ?_
  subst e2 e3
  obtain ⟨n, rfl⟩ : ∃ n : Nat, i = n := ⟨i.toNat, by omega⟩
  have hn : n < stock.length := by omega
  have ea : L2.atI (intsD stock) (n : Int) = some (.int stock[n]) := atI_nat' (by unfold intsD; rw [List.getElem?_map, List.getElem?_eq_getElem hn]; rfl)
  show Al _ (match L2.atI (intsD stock) (n : Int) with
      | some y => if (0 : Int) ≤ (n : Nat) ∧ fits ((intsD found).length + 1) = true ∧ (intsD stock).length ≤ 1000 then R.ok (Fl.nx (((rX m x1 stock found x4).set 2 (.ow (.ls ((intsD stock).eraseIdx ((n : Nat) : Int).toNat)))).set 3 (.ow (.ls (intsD found ++ [y]))))) (ms m a q (b + 1)) else .un
      | none => .un)
  rw [ea]
  show Al _ (if (0 : Int) ≤ (n : Nat) ∧ fits ((intsD found).length + 1) = true ∧ (intsD stock).length ≤ 1000 then R.ok (Fl.nx (((rX m x1 stock found x4).set 2 (.ow (.ls ((intsD stock).eraseIdx ((n : Nat) : Int).toNat)))).set 3 (.ow (.ls (intsD found ++ [D.int stock[n]]))))) (ms m a q (b + 1)) else .un)
  rw [if_pos ⟨by omega, by unfold fits; rw [len_ints]; exact decide_eq_true (by omega), by rw [len_ints]; omega⟩, Int.toNat_natCast, erase_ints]
  refine .ok ⟨n, hn, ?_, rfl⟩
  show Fl.nx [.fz (.adr m), x1, .ow (.ls (intsD (stock.eraseIdx n))), .ow (.ls (intsD found ++ [D.int stock[n]])), x4] = _
  rw [show intsD found ++ [D.int stock[n]] = intsD (found ++ [stock[n]]) by unfold intsD; rw [List.map_append]; rfl]
  rfl
theorem mx_loop (x1 : Sl) : ∀ (ds : List D) (stock found : List Int) (b : Nat) (x4 : Sl), stock.length = ds.length → stock.length + found.length ≤ 12 → b + ds.length ≤ 1000000 →
    Al (fun f s => ∃ found' x4', f = .nx (rX m x1 [] found' x4') ∧ found'.Perm (found ++ stock) ∧ s = ms m a q (b + ds.length)) (forL (gN 4) mx_body ds (rX m x1 stock found x4) (ms m a q b))
  | [], stock, found, b, x4, h1, _, _ => by
    have : stock = [] := List.length_eq_zero_iff.mp h1
    subst this
    exact .ok ⟨found, x4, rfl, by rw [List.append_nil], rfl⟩
  | d :: ds, stock, found, b, x4, h1, h2, h3 => by
    rw [List.length_cons] at h1 h3
    show Al _ ((mx_body (rX m x1 stock found (.fz d)) (ms m a q b)).bind (forK fun ρ s => forL (gN 4) mx_body ds ρ s))
    refine Al.bind (mx_step x1 (.fz d) stock found (by omega) h2 (by omega)) fun f s ⟨i, hi, e1, e2⟩ => ?_
    subst e1 e2
    have le := List.length_eraseIdx_of_lt hi
    refine (mx_loop x1 ds (stock.eraseIdx i) (found ++ [stock[i]]) (b + 1) (.fz d) (by omega) (by rw [List.length_append, List.length_singleton]; omega) (by omega)).imp fun f s ⟨found', x4', e1, e2, e3⟩ => ?_
    refine ⟨found', x4', e1, e2.trans ?_, by rw [e3, List.length_cons, show b + 1 + ds.length = b + (ds.length + 1) by omega]⟩
    rw [List.append_assoc]
    exact List.Perm.append_left found (perm_erase stock i hi)
theorem mixed_true (ns : List Int) (hn : ns.length ≤ 12) (hb : b ≤ 900000) : Al (fun d s => ∃ ns', d = .lst (intsD ns') ∧ ns'.Perm ns ∧ s = ms m a q (b + ns.length)) (runS p__law_mixed_up N__law_mixed_up.length [.adr m, .lst (intsD ns)] (ms m a q b)) := by
  have e0 : st0 N__law_mixed_up.length [.adr m, .lst (intsD ns)] = [.fz (.adr m), .fz (.lst (intsD ns)), .no, .no, .no] := rfl
  have p : p__law_mixed_up = seqS (parW 2 3 (vr 1)) (seqS (forS (rgI rg1F (cnsA (lenO 2) nilA)) (gN 4) mx_body) (retS (vr 3))) := by
    unfold p__law_mixed_up
    rfl
  have w1 : ∀ s, parW 2 3 (vr 1) [.fz (.adr m), .fz (.lst (intsD ns)), .no, .no, .no] s = .ok (.nx (rX m (.fz (.lst (intsD ns))) ns [] .no)) s := fun s => by
    show (if fits (intsD ns).length = true then R.ok (Fl.nx (rX m (.fz (.lst (intsD ns))) ns [] .no)) s else R.un) = _
    rw [if_pos (fits12 (by rw [len_ints]; exact hn))]
  have hi : ∀ s, rgI rg1F (cnsA (lenO 2) nilA) (rX m (.fz (.lst (intsD ns))) ns [] .no) s = .ok (rngD 0 ns.length) s := fun s => rg_of (n := ns.length) (by
    show (R.ok (D.int (((intsD ns).length : Nat) : Int)) s : R D) = _
    rw [len_ints]) hn
  unfold runS
  rw [e0, p, seq_nx (w1 _)]
  refine Al.bind (P := fun f s => ∃ ns', f = .rt (.lst (intsD ns')) ∧ ns'.Perm ns ∧ s = ms m a q (b + ns.length)) ?_ fun f s ⟨ns', e1, e2, e3⟩ => by
    subst e1
    exact .ok ⟨ns', rfl, e2, e3⟩
  have fl : Al (fun f s => ∃ found' x4', f = .nx (rX m (.fz (.lst (intsD ns))) [] found' x4') ∧ found'.Perm ns ∧ s = ms m a q (b + ns.length)) (forS (rgI rg1F (cnsA (lenO 2) nilA)) (gN 4) mx_body (rX m (.fz (.lst (intsD ns))) ns [] .no) (ms m a q b)) := by
    unfold forS
    rw [hi]
    have h := mx_loop (m := m) (a := a) (q := q) (.fz (.lst (intsD ns))) (rngD 0 ns.length) ns [] b .no (by rw [rngD_len]) (by simpa using hn) (by rw [rngD_len]; omega)
    rw [rngD_len] at h
    exact h
  refine al_seq (P1 := fun ρ s => ∃ found' x4', ρ = rX m (.fz (.lst (intsD ns))) [] found' x4' ∧ found'.Perm ns ∧ s = ms m a q (b + ns.length)) (fl.imp fun f s ⟨y, x, e1, e2, e3⟩ => ⟨_, e1, y, x, rfl, e2, e3⟩) ?_
  rintro ρ s ⟨y, x, rfl, e2, rfl⟩
  exact .ok ⟨y, rfl, e2, rfl⟩
end
end W2

/-! PyI: _law_many_right is true. -/
namespace W2
open PySem PySem.Spec PyProof.Rows L2 Pg Pf LamX Pp Tab Rul
theorem star_ok {c n m nk np : Nat} {gD : List D → List D → List D} {F : List D → S → R D} {fo : Slots → S → R D} {fa fk : Slots → S → R (List D)} {ρ : Slots} {s : S} {es ds zs : List D} (h : fo ρ s = .ok (.obj c es) s) (h2 : fa ρ s = .ok ds s) (h3 : fk ρ s = .ok zs s)
    (e1 : ds.length = m) (e2 : zs.length = nk) (e3 : m ≤ 1000) (e4 : (gD ds zs).length + 2 = n) : starF c n m nk np gD F fo fa fk ρ s = F (.obj c es :: (gD ds zs ++ [.tup (ds.drop np)])) s := by
  unfold starF
  rw [h]
  show (if c = c then (fa ρ s).bind fun ds s => if ds.length = m then (fk ρ s).bind fun zs s => if zs.length = nk ∧ m ≤ 1000 ∧ (gD ds zs).length + 2 = n then F (.obj c es :: (gD ds zs ++ [.tup (ds.drop np)])) s else .un else .un else .un) = _
  rw [if_pos rfl, h2]
  show (if ds.length = m then (fk ρ s).bind fun zs s => if zs.length = nk ∧ m ≤ 1000 ∧ (gD ds zs).length + 2 = n then F (.obj c es :: (gD ds zs ++ [.tup (ds.drop np)])) s else .un else .un) = _
  rw [if_pos e1, h3]
  show (if zs.length = nk ∧ m ≤ 1000 ∧ (gD ds zs).length + 2 = n then F (.obj c es :: (gD ds zs ++ [.tup (ds.drop np)])) s else .un) = _
  rw [if_pos ⟨e2, e3, e4⟩]
def cf12 : Cf := fun _ _ => rangeI 12
theorem ok12 : OkW 2 3 12 cf12 := ⟨by decide, by decide, by decide, by decide, by decide, by decide, fun _ _ _ _ => cell_range (by decide)⟩
theorem full_eq : D.tup (rngD 0 12) = .tup (intsD (rangeI 12)) := rfl
theorem in12 {ns : List Int} (p : ns.Perm (rangeI 12)) (x : Int) : x ∈ ns ↔ x ∈ rangeI 12 := p.mem_iff
theorem nd12 {ns : List Int} (p : ns.Perm (rangeI 12)) : ns.Nodup := p.nodup_iff.mpr ((rangeI_asc 12).imp fun h => by omega)
theorem val12 {ns : List Int} (p : ns.Perm (rangeI 12)) {x : Int} (h : x ∈ ns) : 0 ≤ x ∧ x < ((12 : Nat) : Int) := mem_range' (k := 12).mp ((in12 p x).mp h)
theorem keep11 {ns : List Int} {z : Int} (p : (ns ++ [z]).Perm (rangeI 12)) (i j : Nat) : keepN cf12 ns i j = [z] := by
  have nd := List.nodup_append.mp (nd12 p)
  refine asc_one ((rangeI_asc 12).sublist List.filter_sublist) (by simp) fun x => ?_
  show x ∈ (rangeI 12).filter _ ↔ _
  rw [List.mem_filter, ← in12 p x, List.mem_append, List.mem_singleton]
  constructor
  · rintro ⟨h | h, h2⟩
    · simp [h] at h2
    · exact h
  · intro h
    refine ⟨.inr h, ?_⟩
    have : x ∉ ns := fun hx => nd.2.2 x hx z (by simp) h
    simp [this]
theorem keep12 {ns : List Int} (p : ns.Perm (rangeI 12)) (i j : Nat) : keepN cf12 ns i j = [] := by
  show (rangeI 12).filter _ = []
  refine List.filter_eq_nil_iff.mpr fun x hx => ?_
  simp [(in12 p x).mpr hx]
theorem sort12 {ns : List Int} (p : ns.Perm (rangeI 12)) : sortU 12 ns = rangeI 12 := by
  show (rangeI 12).filter _ = _
  refine List.filter_eq_self.mpr fun x hx => ?_
  simp [(in12 p x).mpr hx]
theorem less11 {ns : List Int} {z : Int} (p : (ns ++ [z]).Perm (rangeI 12)) : lessW cf12 ns none (some 1) = fun _ j => if j = 1 then [z] else rangeI 12 := by
  funext i j
  unfold lessW
  rw [keep11 p]
  show (if (true && decide (1 = j)) = true then [z] else rangeI 12) = _
  by_cases h : j = 1
  · subst h
    rfl
  · rw [if_neg h, if_neg (by simp; omega)]
theorem bad11 {ns : List Int} {z : Int} (p : (ns ++ [z]).Perm (rangeI 12)) : (pairsL 2 3).any (badP cf12 ns none (some 1)) = false := by
  rw [List.any_eq_false]
  intro x _ hb
  unfold badP at hb
  rw [keep11 p] at hb
  simp at hb
theorem bad12 {ns : List Int} (p : ns.Perm (rangeI 12)) : (pairsL 2 3).any (badP cf12 ns none none) = true := by
  rw [List.any_eq_true]
  refine ⟨(0, 0), mem_pairs.mpr ⟨by decide, by decide⟩, ?_⟩
  unfold badP
  rw [keep12 p]
  rfl
theorem two_shaped (v w : List Int) : (D.lst [.tup (intsD v), .tup (intsD w)]).isPy = true ∧ SeqAt.shaped (D.lst [.tup (intsD v), .tup (intsD w)]).py = true := by
  have e1 : ∀ v : List Int, (D.tup (intsD v)).py = .tuple (v.map PyData.int) := fun v => by
    show PyData.tuple (pyA (intsD v)) = _
    rw [(py_ints v).1]
  have e2 : (D.lst [.tup (intsD v), .tup (intsD w)]).py = .list [.tuple (v.map PyData.int), .tuple (w.map PyData.int)] := by
    show PyData.list [(D.tup (intsD v)).py, (D.tup (intsD w)).py] = _
    rw [e1, e1]
  refine ⟨?_, ?_⟩
  · show (isPyA (intsD v) && (isPyA (intsD w) && true)) = true
    rw [(py_ints v).2, (py_ints w).2]
    rfl
  · rw [e2]
    show ((PyData.canLayAll0 (v.map PyData.int) && (PyData.canLayAll0 (w.map PyData.int) && true)) && decide (max (PyData.depthAll (v.map PyData.int) + 1) (max (PyData.depthAll (w.map PyData.int) + 1) 0) + 1 ≤ 64)) = true
    rw [(layI v).1, (layI w).1, (layI v).2, (layI w).2]
    rfl
def y_way : Slots → S → R Fl := asgS (bC tupF (cnsA (bC F_wayN (cnsA (kst (.int 2)) (cnsA (kst (.int 3)) (cnsA (kst (.int 12)) nilA)))) (cnsA (b1 tRgF (kst (.int 12))) nilA))) (gT 2 (gsC (gN 16) (gsC (gN 1) gs0)))
noncomputable def y_row : Slots → S → R Fl := setF 2 (bC (nF 2 (neF (runS p__law_mixed_up N__law_mixed_up.length))) (cnsA (vr 0) (cnsA (bC listF (cnsA (vr 1) nilA)) nilA)))
def y_s1 : Slots → S → R Fl := asgS (slLX (vr 2) noO (soO (kst (.int 6)))) (gTL 6 (gsC (gN 4) (gsC (gN 5) (gsC (gN 6) (gsC (gN 7) (gsC (gN 8) (gsC (gN 9) gs0)))))))
def y_s2 : Slots → S → R Fl := asgS (slLX (vr 2) (soO (kst (.int 6))) noO) (gTL 6 (gsC (gN 10) (gsC (gN 11) (gsC (gN 12) (gsC (gN 13) (gsC (gN 14) (gsC (gN 15) gs0)))))))
noncomputable def y_t1 : Slots → S → R D := starF 0 4 11 1 0 gL (runS p_Way_closing N_Way_closing.length) (vr 16) (cnsA (vr 4) (cnsA (vr 5) (cnsA (vr 6) (cnsA (vr 7) (cnsA (vr 8) (cnsA (vr 9) (cnsA (vr 10) (cnsA (vr 11) (cnsA (vr 12) (cnsA (vr 13) (cnsA (vr 14) nilA))))))))))) (cnsA (kst (.int 1)) nilA)
def y_i1 : Slots → S → R Bool := tst (b2 neqF (b1 (fldF 0 3) (vr 3)) (b2 repT (bC tupF (cnsA (bC tupF (cnsA (vr 1) (cnsA (bC tupF (cnsA (vr 15) nilA)) (cnsA (vr 1) nilA)))) nilA)) (kst (.int 2))))
noncomputable def y_t2 : Slots → S → R D := starF 0 4 11 0 2 gT2 (runS p_Way_allowing N_Way_allowing.length) (vr 16) (cnsA (kst (.int 1)) (cnsA (kst (.int 2)) (cnsA (vr 4) (cnsA (vr 5) (cnsA (vr 6) (cnsA (vr 7) (cnsA (vr 7) (cnsA (vr 8) (cnsA (vr 9) (cnsA (vr 9) (cnsA (vr 10) nilA))))))))))) nilA
noncomputable def y_i2 : Slots → S → R Bool := tst (b2 neqF (mkL (litL (cnsA (metF 0 3 (tell P_allow) (vr 3) (cnsA (kst (.int 1)) (cnsA (kst (.int 2)) nilA))) (cnsA (metF 0 3 (tell P_allow) (vr 3) (cnsA (kst (.int 0)) (cnsA (kst (.int 2)) nilA))) nilA)))) (mkL (litL (cnsA (bC tupleF (cnsA (b1 sLstF (mkL (litL (cnsA (vr 4) (cnsA (vr 5) (cnsA (vr 6) (cnsA (vr 7) (cnsA (vr 8) (cnsA (vr 9) (cnsA (vr 10) nilA)))))))))) nilA)) (cnsA (vr 1) nilA)))))
noncomputable def y_i3 : Slots → S → R Bool := tst (b2 (fun x y s => tell (P_eqw true) [x, y] s) (starF 0 4 14 0 2 gT2 (runS p_Way_allowing N_Way_allowing.length) (vr 16) (cnsA (kst (.int 0)) (cnsA (kst (.int 0)) (cnsA (vr 4) (cnsA (vr 5) (cnsA (vr 6) (cnsA (vr 7) (cnsA (vr 8) (cnsA (vr 9) (cnsA (vr 10) (cnsA (vr 11) (cnsA (vr 12) (cnsA (vr 13) (cnsA (vr 14) (cnsA (vr 15) nilA)))))))))))))) nilA) (vr 16))
noncomputable def y_cl : Slots → S → R D := starF 0 4 12 0 0 gN0 (runS p_Way_closing N_Way_closing.length) (vr 16) (cnsA (vr 4) (cnsA (vr 5) (cnsA (vr 6) (cnsA (vr 7) (cnsA (vr 8) (cnsA (vr 9) (cnsA (vr 10) (cnsA (vr 11) (cnsA (vr 12) (cnsA (vr 13) (cnsA (vr 14) (cnsA (vr 15) nilA)))))))))))) nilA
noncomputable def y_ret : Slots → S → R Fl := retS (b2 eqF (fun ρ s => tabR (y_cl ρ s)) (mkL (litL (cnsA (kst .non) nilA))))
abbrev no_ : Slots → S → R Fl := retS (kst (.bl false))
noncomputable def y_rest : Slots → S → R Fl := seqS y_s1 (seqS y_s2 (seqS (setF 3 y_t1) (seqS (ifS y_i1 no_ nxS) (seqS (setF 3 y_t2) (seqS (ifS y_i2 no_ nxS) (seqS (ifS y_i3 no_ nxS) y_ret))))))
theorem p_many_eq : p__law_many_right = seqS y_way (seqS y_row y_rest) := by
  unfold p__law_many_right
  rfl
theorem if_no {p : Slots → S → R Bool} {ρ : Slots} {s : S} (h : p (allS ρ) s = .ok false s) : ifS p no_ nxS ρ s = .ok (.nx ρ) s := by
  unfold ifS
  rw [h]
  rfl
section
variable {m : Addr} {c0 q0 : Addr}
def rY (m : Addr) (row : Sl) (x3 x4 x5 x6 x7 x8 x9 x10 x11 x12 x13 x14 x15 : Sl) : Slots := [.fz (.adr m), .fz (.tup (rngD 0 12)), row, x3, x4, x5, x6, x7, x8, x9, x10, x11, x12, x13, x14, x15, .fz (wayD 2 3 12 cf12)]
theorem many_rest {a b c d e f g h i j k z : Int} (p : ([a, b, c, d, e, f, g, h, i, j, k] ++ [z]).Perm (rangeI 12)) (s : S) :
    y_rest (rY m (.fz (.lst (intsD [a, b, c, d, e, f, g, h, i, j, k, z]))) .no .no .no .no .no .no .no .no .no .no .no .no .no) s = .ok (.rt (.bl true)) s := by
  have o := ok12
  have p2 : [a, b, c, d, e, f, g, h, i, j, k, z].Perm (rangeI 12) := p
  have nd := nd12 p2
  have val : ∀ x ∈ [a, b, c, d, e, f, g, h, i, j, k, z], 0 ≤ x ∧ x < ((12 : Nat) : Int) := fun x hx => val12 p2 hx
  obtain ⟨row, hrow⟩ : ∃ row : Sl, row = .fz (.lst (intsD [a, b, c, d, e, f, g, h, i, j, k, z])) := ⟨_, rfl⟩
  have s1 : y_s1 (rY m row .no .no .no .no .no .no .no .no .no .no .no .no .no) s = .ok (.nx (rY m row .no (.fz (.int a)) (.fz (.int b)) (.fz (.int c)) (.fz (.int d)) (.fz (.int e)) (.fz (.int f)) .no .no .no .no .no .no)) s := by
    rw [hrow]
    rfl
  have s2 : y_s2 (rY m row .no (.fz (.int a)) (.fz (.int b)) (.fz (.int c)) (.fz (.int d)) (.fz (.int e)) (.fz (.int f)) .no .no .no .no .no .no) s = .ok (.nx (rY m row .no (.fz (.int a)) (.fz (.int b)) (.fz (.int c)) (.fz (.int d)) (.fz (.int e)) (.fz (.int f)) (.fz (.int g)) (.fz (.int h)) (.fz (.int i)) (.fz (.int j)) (.fz (.int k)) (.fz (.int z)))) s := by
    rw [hrow]
    rfl
  have all : ∀ x3 : D, allS (rY m row (.fz x3) (.fz (.int a)) (.fz (.int b)) (.fz (.int c)) (.fz (.int d)) (.fz (.int e)) (.fz (.int f)) (.fz (.int g)) (.fz (.int h)) (.fz (.int i)) (.fz (.int j)) (.fz (.int k)) (.fz (.int z))) = rY m row (.fz x3) (.fz (.int a)) (.fz (.int b)) (.fz (.int c)) (.fz (.int d)) (.fz (.int e)) (.fz (.int f)) (.fz (.int g)) (.fz (.int h)) (.fz (.int i)) (.fz (.int j)) (.fz (.int k)) (.fz (.int z)) := fun x3 => by
    rw [hrow]
    rfl
  obtain ⟨C1, hC1⟩ : ∃ C1 : Cf, C1 = fun _ j => if j = 1 then [z] else rangeI 12 := ⟨_, rfl⟩
  have oC1 : OkW 2 3 12 C1 := by
    have := lessW_ok o (bad11 p)
    rw [less11 p, ← hC1] at this
    exact this
  obtain ⟨ρ2, h2⟩ : ∃ ρ2 : Slots, ρ2 = rY m row .no (.fz (.int a)) (.fz (.int b)) (.fz (.int c)) (.fz (.int d)) (.fz (.int e)) (.fz (.int f)) (.fz (.int g)) (.fz (.int h)) (.fz (.int i)) (.fz (.int j)) (.fz (.int k)) (.fz (.int z)) := ⟨_, rfl⟩
  obtain ⟨ρ3, h3⟩ : ∃ ρ3 : Slots, ρ3 = rY m row (.fz (wayD 2 3 12 C1)) (.fz (.int a)) (.fz (.int b)) (.fz (.int c)) (.fz (.int d)) (.fz (.int e)) (.fz (.int f)) (.fz (.int g)) (.fz (.int h)) (.fz (.int i)) (.fz (.int j)) (.fz (.int k)) (.fz (.int z)) := ⟨_, rfl⟩
  have v16 : ∀ {ρ : Slots} {x3 : Sl}, ρ = rY m row x3 (.fz (.int a)) (.fz (.int b)) (.fz (.int c)) (.fz (.int d)) (.fz (.int e)) (.fz (.int f)) (.fz (.int g)) (.fz (.int h)) (.fz (.int i)) (.fz (.int j)) (.fz (.int k)) (.fz (.int z)) → vr 16 ρ s = .ok (wayD 2 3 12 cf12) s := fun {ρ x3} hh => by rw [hh]; rfl
  have t1 : setF 3 y_t1 ρ2 s = .ok (.nx ρ3) s := by
    have hh : y_t1 ρ2 s = .ok (wayD 2 3 12 C1) s := by
      unfold y_t1
      refine (star_ok (c := 0) (ds := intsD [a, b, c, d, e, f, g, h, i, j, k]) (zs := [.int 1]) (v16 h2) (by rw [h2]; rfl) (by rfl) (by rfl) (by rfl) (by decide) (by rfl)).trans ?_
      have := closing_eq (ns := [a, b, c, d, e, f, g, h, i, j, k]) (ro := none) (lo := some 1) o (fun _ x => by cases x) (fun _ x => by cases x; decide) (by simp) (fun x hx => val x (List.mem_append_left [z] hx)) s
      rw [bad11 p, if_neg Bool.false_ne_true, less11 p, ← hC1] at this
      exact this
    rw [set_ok hh, h2, h3]
    rfl
  have i1 : y_i1 (allS ρ3) s = .ok false s := by
    rw [h3, all]
    have g1 : b1 (fldF 0 3) (vr 3) ρ3 s = .ok (tabDD 2 3 C1) s := by rw [h3]; rfl
    have g2 : b2 repT (bC tupF (cnsA (bC tupF (cnsA (vr 1) (cnsA (bC tupF (cnsA (vr 15) nilA)) (cnsA (vr 1) nilA)))) nilA)) (kst (.int 2)) ρ3 s = .ok (tabDD 2 3 C1) s := by
      rw [tab_rows, hC1, h3]
      rfl
    rw [← h3]
    refine tst_ok ?_
    rw [b2_ok g1 g2]
    exact neq_tab oC1 s
  obtain ⟨v, hv⟩ : ∃ v, v = sortU 12 [a, b, c, d, d, e, f, f, g] := ⟨_, rfl⟩
  have val9 : ∀ x ∈ [a, b, c, d, d, e, f, f, g], 0 ≤ x ∧ x < ((12 : Nat) : Int) := fun x hx => val x (by
    simp only [List.mem_cons, List.not_mem_nil, or_false] at hx ⊢
    omega)
  obtain ⟨ρ4, h4⟩ : ∃ ρ4 : Slots, ρ4 = rY m row (.fz (wayD 2 3 12 (put2 cf12 1 2 v))) (.fz (.int a)) (.fz (.int b)) (.fz (.int c)) (.fz (.int d)) (.fz (.int e)) (.fz (.int f)) (.fz (.int g)) (.fz (.int h)) (.fz (.int i)) (.fz (.int j)) (.fz (.int k)) (.fz (.int z)) := ⟨_, rfl⟩
  have oP : OkW 2 3 12 (put2 cf12 1 2 v) := by
    rw [hv]
    exact put_ok o (sortU_cell val9 (by simp))
  have t2 : setF 3 y_t2 ρ3 s = .ok (.nx ρ4) s := by
    have hh : y_t2 ρ3 s = .ok (wayD 2 3 12 (put2 cf12 1 2 v)) s := by
      unfold y_t2
      refine (star_ok (c := 0) (ds := intsD [1, 2, a, b, c, d, d, e, f, f, g]) (zs := []) (v16 h3) (by rw [h3]; rfl) (by rfl) (by rfl) (by rfl) (by decide) (by rfl)).trans ?_
      have := allowing_eq (ns := [a, b, c, d, d, e, f, f, g]) (i := 1) (j := 2) o (by decide) (by decide) (by simp) val9 s
      rw [if_neg (by simp), ← hv] at this
      exact this
    rw [set_ok hh, h3, h4]
    rfl
  have vs : v = srtS [a, b, c, d, e, f, g] := by
    rw [hv]
    refine asc_one ((rangeI_asc _).sublist List.filter_sublist) asc_srtS fun x => ?_
    rw [mem_srtS]
    unfold sortU
    rw [List.mem_filter, decide_eq_true_eq]
    constructor
    · rintro ⟨_, hx⟩
      simp only [List.mem_cons, List.not_mem_nil, or_false] at hx ⊢
      omega
    · intro hx
      have h9 : x ∈ [a, b, c, d, d, e, f, f, g] := by
        simp only [List.mem_cons, List.not_mem_nil, or_false] at hx ⊢
        omega
      exact ⟨mem_range'.mpr (val9 x h9), h9⟩
  have nd7 : [a, b, c, d, e, f, g].Nodup := nd.sublist (List.sublist_append_left [a, b, c, d, e, f, g] [h, i, j, k, z])
  have i2 : y_i2 (allS ρ4) s = .ok false s := by
    have all4 : allS ρ4 = ρ4 := by rw [h4]; exact all _
    rw [all4]
    have v3 : vr 3 ρ4 s = .ok (wayD 2 3 12 (put2 cf12 1 2 v)) s := by rw [h4]; rfl
    have al : ∀ (x y : Nat), x < 2 → y < 3 → metF 0 3 (tell P_allow) (vr 3) (cnsA (kst (.int (x : Nat))) (cnsA (kst (.int (y : Nat))) nilA)) ρ4 s = .ok (.tup (intsD (put2 cf12 1 2 v x y))) s := fun x y hx hy => by
      rw [metF_ok (c := 0) v3 (show cnsA (kst (.int (x : Nat))) (cnsA (kst (.int (y : Nat))) nilA) ρ4 s = .ok [.int (x : Nat), .int (y : Nat)] s from rfl)]
      exact (nF_of (n := 3) (ds := [wayD 2 3 12 (put2 cf12 1 2 v), .int (x : Nat), .int (y : Nat)]) rfl).trans (allow_eq oP hx hy s)
    have al1 : metF 0 3 (tell P_allow) (vr 3) (cnsA (kst (.int 1)) (cnsA (kst (.int 2)) nilA)) ρ4 s = .ok (.tup (intsD (put2 cf12 1 2 v 1 2))) s := al 1 2 (by decide) (by decide)
    have al2 : metF 0 3 (tell P_allow) (vr 3) (cnsA (kst (.int 0)) (cnsA (kst (.int 2)) nilA)) ρ4 s = .ok (.tup (intsD (put2 cf12 1 2 v 0 2))) s := al 0 2 (by decide) (by decide)
    have l1 := lit_ok (cns_ok al1 (cns_ok al2 (show nilA ρ4 s = .ok [] s from rfl))) (by show 2 ≤ 12; decide)
    have so : b1 sLstF (mkL (litL (cnsA (vr 4) (cnsA (vr 5) (cnsA (vr 6) (cnsA (vr 7) (cnsA (vr 8) (cnsA (vr 9) (cnsA (vr 10) nilA))))))))) ρ4 s = .ok (.lst (intsD (srtS [a, b, c, d, e, f, g]))) s := by
      have hl : mkL (litL (cnsA (vr 4) (cnsA (vr 5) (cnsA (vr 6) (cnsA (vr 7) (cnsA (vr 8) (cnsA (vr 9) (cnsA (vr 10) nilA)))))))) ρ4 s = .ok (.lst (intsD [a, b, c, d, e, f, g])) s := by rw [h4]; rfl
      rw [b1_ok hl]
      unfold sLstF
      show (match dInts (intsD [a, b, c, d, e, f, g]) with | some ns => if ns.length < 64 ∧ ns.Nodup then R.ok (D.lst ((srtS ns).map D.int)) s else .un | none => .un) = _
      rw [show dInts (intsD [a, b, c, d, e, f, g]) = some [a, b, c, d, e, f, g] from dInts_map _]
      show (if [a, b, c, d, e, f, g].length < 64 ∧ [a, b, c, d, e, f, g].Nodup then R.ok (D.lst ((srtS [a, b, c, d, e, f, g]).map D.int)) s else .un) = _
      rw [if_pos ⟨by simp, nd7⟩]
      rfl
    have st : bC tupleF (cnsA (b1 sLstF (mkL (litL (cnsA (vr 4) (cnsA (vr 5) (cnsA (vr 6) (cnsA (vr 7) (cnsA (vr 8) (cnsA (vr 9) (cnsA (vr 10) nilA)))))))))) nilA) ρ4 s = .ok (.tup (intsD v)) s := by
      rw [bC1 so, vs]
      rfl
    have v1 : vr 1 ρ4 s = .ok (.tup (intsD (rangeI 12))) s := by rw [h4]; rfl
    have l2 := lit_ok (cns_ok st (cns_ok v1 (show nilA ρ4 s = .ok [] s from rfl))) (by show 2 ≤ 12; decide)
    refine tst_ok ?_
    rw [b2_ok l1 l2]
    obtain ⟨q1, q2⟩ := two_shaped v (rangeI 12)
    have e1 : put2 cf12 1 2 v 1 2 = v := rfl
    have e2 : put2 cf12 1 2 v 0 2 = rangeI 12 := rfl
    rw [e1, e2]
    exact neq_self q1 q2 s
  have i3 : y_i3 (allS ρ4) s = .ok false s := by
    have all4 : allS ρ4 = ρ4 := by rw [h4]; exact all _
    rw [all4]
    have hh : starF 0 4 14 0 2 gT2 (runS p_Way_allowing N_Way_allowing.length) (vr 16) (cnsA (kst (.int 0)) (cnsA (kst (.int 0)) (cnsA (vr 4) (cnsA (vr 5) (cnsA (vr 6) (cnsA (vr 7) (cnsA (vr 8) (cnsA (vr 9) (cnsA (vr 10) (cnsA (vr 11) (cnsA (vr 12) (cnsA (vr 13) (cnsA (vr 14) (cnsA (vr 15) nilA)))))))))))))) nilA ρ4 s = .ok (wayD 2 3 12 cf12) s := by
      refine (star_ok (c := 0) (ds := intsD [0, 0, a, b, c, d, e, f, g, h, i, j, k, z]) (zs := []) (v16 h4) (by rw [h4]; rfl) (by rfl) (by rfl) (by rfl) (by decide) (by rfl)).trans ?_
      have := allowing_eq (ns := [a, b, c, d, e, f, g, h, i, j, k, z]) (i := 0) (j := 0) o (by decide) (by decide) (by simp) val s
      rw [if_neg (by simp), sort12 p2] at this
      have e0 : put2 cf12 0 0 (rangeI 12) = cf12 := by
        funext x y
        unfold put2
        split <;> rfl
      rw [e0] at this
      exact this
    refine tst_ok ?_
    rw [b2_ok hh (v16 h4)]
    exact neqw_self o s
  have fin : y_ret ρ4 s = .ok (.rt (.bl true)) s := by
    have all4 : allS ρ4 = ρ4 := by rw [h4]; exact all _
    have hh : y_cl ρ4 s = .ex noPl s := by
      unfold y_cl
      refine (star_ok (c := 0) (ds := intsD [a, b, c, d, e, f, g, h, i, j, k, z]) (zs := []) (v16 h4) (by rw [h4]; rfl) (by rfl) (by rfl) (by rfl) (by decide) (by rfl)).trans ?_
      have := closing_eq (ns := [a, b, c, d, e, f, g, h, i, j, k, z]) (ro := none) (lo := none) o (fun _ x => by cases x) (fun _ x => by cases x) (by simp) val s
      rw [bad12 p2, if_pos rfl] at this
      exact this
    refine ret_ok ?_
    rw [all4]
    have g1 : (fun ρ s => tabR (y_cl ρ s)) ρ4 s = .ok (.lst [.non]) s := by
      show tabR (y_cl ρ4 s) = _
      rw [hh]
      rfl
    rw [b2_ok (f := fun ρ s => tabR (y_cl ρ s)) g1 (show mkL (litL (cnsA (kst .non) nilA)) ρ4 s = .ok (.lst [.non]) s from rfl)]
    rfl
  rw [← hrow]
  unfold y_rest
  rw [seq_nx s1, seq_nx s2, ← h2, seq_nx t1, seq_nx (if_no i1), seq_nx t2, seq_nx (if_no i2), seq_nx (if_no i3), fin]
theorem many_right_true {b : Nat} (hb : b ≤ 800000) : Al (fun d s => d = .bl true ∧ s = ms m c0 q0 (b + 12)) (runS p__law_many_right N__law_many_right.length [.adr m] (ms m c0 q0 b)) := by
  have e0 : st0 N__law_many_right.length [.adr m] = [.fz (.adr m), .no, .no, .no, .no, .no, .no, .no, .no, .no, .no, .no, .no, .no, .no, .no, .no] := rfl
  have w1 : ∀ s, y_way [.fz (.adr m), .no, .no, .no, .no, .no, .no, .no, .no, .no, .no, .no, .no, .no, .no, .no, .no] s = .ok (.nx (rY m .no .no .no .no .no .no .no .no .no .no .no .no .no .no)) s := fun s => rfl
  unfold runS
  rw [e0, p_many_eq, seq_nx (w1 _)]
  refine Al.bind (P := fun f s => f = .rt (.bl true) ∧ s = ms m c0 q0 (b + 12)) ?_ fun f s ⟨e1, e2⟩ => by
    subst e1
    exact .ok ⟨rfl, e2⟩
  refine al_seq (P1 := fun ρ s => ∃ ns : List Int, ρ = rY m (.fz (.lst (intsD ns))) .no .no .no .no .no .no .no .no .no .no .no .no .no ∧ ns.Perm (rangeI 12) ∧ s = ms m c0 q0 (b + 12)) ?_ ?_
  · unfold y_row setF
    have a1 : ∀ s, cnsA (vr 0) (cnsA (bC listF (cnsA (vr 1) nilA)) nilA) (rY m .no .no .no .no .no .no .no .no .no .no .no .no .no .no) s = .ok [.adr m, .lst (intsD (rangeI 12))] s := fun s => rfl
    rw [bC_of (a1 _)]
    unfold nF
    rw [if_pos (by rfl)]
    refine Al.bind (mixed_true (m := m) (a := c0) (q := q0) (rangeI 12) (by decide) (by omega)).noex fun d s ⟨ns, e1, e2, e3⟩ => ?_
    subst e1
    exact .ok ⟨_, rfl, ns, rfl, e2, e3⟩
  · rintro ρ s ⟨ns, rfl, pm, rfl⟩
    have hl : ns.length = 12 := pm.length_eq
    match ns, hl, pm with
    | [a, b, c, d, e, f, g, h, i, j, k, z], _, pm =>
      rw [many_rest pm]
      exact .ok ⟨rfl, rfl⟩
end
end W2

/-! PyJ: the law, as a function on data. -/
namespace W2
open PySem PySem.Spec PyProof.Rows L2 Pg Pf LamX Pp Tab Rul
abbrev s_law : Stmt := top 35
abbrev N_law : List Str := ["_law_script", "_law_m", "_law_again", "_law_net_here", "_law_road", "_law_same", "_law_kept", "_law_trial", "_law_far"]
theorem sc_law : FnScope N_law ["_law_script"] (defScope s_law) := ⟨rfl, rfl, rfl, by decide +kernel, rfl, by decide +kernel, by decide +kernel⟩
noncomputable def q_law : Slots → S → R Fl :=
  (seqS (forS (rgI rg1F (cnsA (kst (.int 6)) nilA)) (gN 2)
    (seqS (setF 3 (bC (nF 3 (neF (tell P_net))) (cnsA (vr 1) (cnsA (b2 plusF (kst (.int 1)) (b2 modF (b2 plusF (vr 2) (bC F_draw (cnsA (vr 1) (cnsA (kst (.int 6)) nilA)))) (kst (.int 6)))) (cnsA (kst (.int 12)) nilA)))))
    (seqS (setF 4 (bC (nF 1 (neF (tell P_lway))) (cnsA (vr 3) nilA)))
    (seqS (parS 5 6 (cnsA (bC (nF 1 (neF (tell P_lway))) (cnsA (vr 3) nilA)) (cnsA (bC reprF (cnsA (b1 (fldF 0 3) (vr 4)) nilA)) nilA)))
    (seqS (ifS (bor (bnt (tst (bC (nF 3 (neF (runS p__law_names_right N__law_names_right.length))) (cnsA (vr 1) (cnsA (vr 3) (cnsA (vr 4) nilA)))))) (bnt (tst (bC (nF 2 (neF (runS p__law_mirrored_right N__law_mirrored_right.length))) (cnsA (vr 3) (cnsA (vr 4) nilA)))))) (retS (kst (.bl false))) nxS)
    (forS (rgI rg1F (cnsA (kst (.int 6)) nilA)) (gN 7)
    (seqS (ifS (bor (bnt (tst (bC (nF 3 (neF (runS p__law_closing_right N__law_closing_right.length))) (cnsA (vr 1) (cnsA (vr 3) (cnsA (vr 4) nilA)))))) (bnt (tst (bC (nF 3 (neF (runS p__law_allowing_right N__law_allowing_right.length))) (cnsA (vr 1) (cnsA (vr 3) (cnsA (vr 4) nilA))))))) (retS (kst (.bl false))) nxS)
    (ifS (bor (tst (b2 (strF true) (bC reprF (cnsA (b1 (fldF 0 3) (vr 4)) nilA)) (vr 6))) (tst (b2 (fun x y s => tell (P_eqw true) [x, y] s) (vr 4) (vr 5)))) (retS (kst (.bl false))) nxS))))))))
    (seqS (ifS (bnt (tst (bC (nF 1 (neF (runS p__law_many_right N__law_many_right.length))) (cnsA (vr 1) nilA)))) (retS (kst (.bl false))) nxS)
    (seqS (setF 8 (starF 0 4 5 0 2 gT2 (runS p_Way_allowing N_Way_allowing.length) (bC F_wayN (cnsA (kst (.int 2)) (cnsA (kst (.int 3)) (cnsA (kst (.int 4)) nilA)))) (cnsA (kst (.int 1)) (cnsA (kst (.int 2)) (cnsA (kst (.int 3)) (cnsA (kst (.int 0)) (cnsA (kst (.int 3)) nilA))))) nilA))
    (retS (b2 eqF (mkL (litL (cnsA (metF 0 3 (tell P_allow) (vr 8) (cnsA (kst (.int 1)) (cnsA (kst (.int 2)) nilA))) (cnsA (metF 0 3 (tell P_allow) (vr 8) (cnsA (kst (.int 0)) (cnsA (kst (.int 2)) nilA))) (cnsA (metF 0 3 (tell P_allow) (starF 0 4 1 1 0 gR (runS p_Way_closing N_Way_closing.length) (vr 8) (cnsA (kst (.int 3)) nilA) (cnsA (kst (.int 1)) nilA)) (cnsA (kst (.int 1)) (cnsA (kst (.int 2)) nilA))) nilA))))) (mkL (litL (cnsA (bC tupF (cnsA (kst (.int 0)) (cnsA (kst (.int 3)) nilA))) (cnsA (bC tupF (cnsA (kst (.int 0)) (cnsA (kst (.int 1)) (cnsA (kst (.int 2)) (cnsA (kst (.int 3)) nilA))))) (cnsA (bC tupF (cnsA (kst (.int 0)) nilA)) nilA))))))))))
end W2

set_option maxHeartbeats 1000000
/-! PyK: the law is true. -/
namespace W2
open PySem PySem.Spec PyProof.Rows L2 Pg Pf LamX Pp Tab Rul
theorem al_forL {v : Nat} {F : Slots → S → R Fl} (I : Nat → Slots → S → Prop) : ∀ (ds : List D) (ρ : Slots) (s : S), I ds.length ρ s → (∀ d ∈ ds, ∀ n ρ s, I (n + 1) ρ s → Al (fun f s => ∃ ρ', f = .nx ρ' ∧ I n ρ' s) (F (ρ.set v (.fz d)) s)) →
    Al (fun f s => ∃ ρ', f = .nx ρ' ∧ I 0 ρ' s) (forL (gN v) F ds ρ s)
  | [], ρ, s, h, _ => .ok ⟨ρ, rfl, h⟩
  | d :: ds, ρ, s, h, st => by
    show Al _ ((F (ρ.set v (.fz d)) s).bind (forK fun ρ s => forL (gN v) F ds ρ s))
    refine Al.bind (st d (List.mem_cons_self ..) ds.length ρ s h) fun f s ⟨ρ', e, h'⟩ => ?_
    subst e
    exact al_forL I ds ρ' s h' fun d hd => st d (List.mem_cons_of_mem _ hd)
theorem al_for {v : Nat} {F : Slots → S → R Fl} {fi : Slots → S → R (List D)} {n : Nat} (I : Nat → Slots → S → Prop) (ρ : Slots) (s : S) (hi : fi ρ s = .ok (rngD 0 n) s) (h : I n ρ s) (st : ∀ i, i < n → ∀ n ρ s, I (n + 1) ρ s → Al (fun f s => ∃ ρ', f = .nx ρ' ∧ I n ρ' s) (F (ρ.set v (.fz (.int (i : Nat)))) s)) :
    Al (fun f s => ∃ ρ', f = .nx ρ' ∧ I 0 ρ' s) (forS fi (gN v) F ρ s) := by
  unfold forS
  rw [hi]
  refine al_forL I (rngD 0 n) ρ s (by rw [rngD_len]; exact h) fun d hd => ?_
  obtain ⟨i, hi, rfl⟩ := mem_rng hd
  exact st i hi
section
variable {e l k : Nat} {c : Cf} {m a q : Addr} {b : Nat}
theorem net_al {most : Int} (h1 : 1 ≤ most) (h2 : most ≤ 6) (hb : b ≤ 50000) : Al (fun d s => ∃ e l k c, d = netDD e l k c ∧ OkW e l k c ∧ s = ms m a q (b + 600)) (tell P_net [.adr m, .int most, .int 12] (ms m a q b)) := by
  have e1 : tell P_net [.adr m, .int most, .int 12] (ms m a q b) = .an (fun d s' => s' = ms m a q (b + 600) ∧ ∃ e w k c, d = netDD e w k c ∧ OkN most 12 e w k c) (fun d s' => .ok d s') := by
    refine tell_of ⟨m, a, q, b, most, 12, rfl, rfl, by omega, h1, h2, by decide, by decide, rfl⟩ fun r' ⟨m', a', q', b', most', many', hs, hd, _, _, _, _, _, hr⟩ => ?_
    cases hs
    injection hd with _ hd
    injection hd with h3 hd
    injection hd with h4 _
    injection h3 with h3
    injection h4 with h4
    subst h3 h4
    exact hr
  rw [e1]
  refine .an fun d s ⟨e2, e, w, k, c, e3, o⟩ => .ok ⟨e, w, k, c, e3, o.1, e2⟩
theorem lway_eq (o : OkW e l k c) (s : S) : tell P_lway [netDD e l k c] s = .ok (wayD e l k c) s := by
  refine tell_of ⟨e, l, k, c, rfl, o, rfl⟩ fun r' ⟨e', l', k', c', h, o', hr⟩ => ?_
  injection h with h _
  rw [net_eq, net_eq] at h
  injection h with h
  injection h with h1 h
  injection h with h2 h
  injection h with h3 h
  injection h with h4 _
  injection h1 with h1
  injection h2 with h2
  injection h3 with h3
  injection h4 with h4
  obtain rfl : e = e' := by omega
  obtain rfl : l = l' := by omega
  obtain rfl : k = k' := by omega
  have ht : rowsD e l c = rowsD e l c' := by
    have : ∀ c : Cf, rowsD e l c = (netRows e l c).map fun d => match d with | .rls ds => .tup ds | d => d := fun c => by
      unfold rowsD netRows
      rw [List.map_map]
      rfl
    rw [this c, this c', h4]
  rw [hr]
  unfold wayD
  rw [tab_rows, tab_rows, ht]
noncomputable def l_net : Slots → S → R D := bC (nF 3 (neF (tell P_net))) (cnsA (vr 1) (cnsA (b2 plusF (kst (.int 1)) (b2 modF (b2 plusF (vr 2) (bC F_draw (cnsA (vr 1) (cnsA (kst (.int 6)) nilA)))) (kst (.int 6)))) (cnsA (kst (.int 12)) nilA)))
noncomputable def l_way : Slots → S → R D := bC (nF 1 (neF (tell P_lway))) (cnsA (vr 3) nilA)
noncomputable def l_kept : Slots → S → R D := bC reprF (cnsA (b1 (fldF 0 3) (vr 4)) nilA)
noncomputable def l_par : Slots → S → R Fl := parS 5 6 (cnsA l_way (cnsA l_kept nilA))
noncomputable def l_names : Slots → S → R D := bC (nF 3 (neF (runS p__law_names_right N__law_names_right.length))) (cnsA (vr 1) (cnsA (vr 3) (cnsA (vr 4) nilA)))
noncomputable def l_mirr : Slots → S → R D := bC (nF 2 (neF (runS p__law_mirrored_right N__law_mirrored_right.length))) (cnsA (vr 3) (cnsA (vr 4) nilA))
noncomputable def l_cr : Slots → S → R D := bC (nF 3 (neF (runS p__law_closing_right N__law_closing_right.length))) (cnsA (vr 1) (cnsA (vr 3) (cnsA (vr 4) nilA)))
noncomputable def l_ar : Slots → S → R D := bC (nF 3 (neF (runS p__law_allowing_right N__law_allowing_right.length))) (cnsA (vr 1) (cnsA (vr 3) (cnsA (vr 4) nilA)))
noncomputable def l_mr : Slots → S → R D := bC (nF 1 (neF (runS p__law_many_right N__law_many_right.length))) (cnsA (vr 1) nilA)
noncomputable def l_same : Slots → S → R Bool := bor (tst (b2 (strF true) l_kept (vr 6))) (tst (b2 (fun x y s => tell (P_eqw true) [x, y] s) (vr 4) (vr 5)))
noncomputable def l_in : Slots → S → R Fl := seqS (ifS (bor (bnt (tst l_cr)) (bnt (tst l_ar))) no_ nxS) (ifS l_same no_ nxS)
def l_six : Slots → S → R (List D) := rgI rg1F (cnsA (kst (.int 6)) nilA)
noncomputable def l_turn : Slots → S → R Fl := seqS (setF 3 l_net) (seqS (setF 4 l_way) (seqS l_par (seqS (ifS (bor (bnt (tst l_names)) (bnt (tst l_mirr))) no_ nxS) (forS l_six (gN 7) l_in))))
noncomputable def l_far : Slots → S → R D := starF 0 4 5 0 2 gT2 (runS p_Way_allowing N_Way_allowing.length) (bC F_wayN (cnsA (kst (.int 2)) (cnsA (kst (.int 3)) (cnsA (kst (.int 4)) nilA)))) (cnsA (kst (.int 1)) (cnsA (kst (.int 2)) (cnsA (kst (.int 3)) (cnsA (kst (.int 0)) (cnsA (kst (.int 3)) nilA))))) nilA
noncomputable def l_clo : Slots → S → R D := starF 0 4 1 1 0 gR (runS p_Way_closing N_Way_closing.length) (vr 8) (cnsA (kst (.int 3)) nilA) (cnsA (kst (.int 1)) nilA)
noncomputable def l_ret : Slots → S → R Fl := retS (b2 eqF (mkL (litL (cnsA (metF 0 3 (tell P_allow) (vr 8) (cnsA (kst (.int 1)) (cnsA (kst (.int 2)) nilA))) (cnsA (metF 0 3 (tell P_allow) (vr 8) (cnsA (kst (.int 0)) (cnsA (kst (.int 2)) nilA))) (cnsA (metF 0 3 (tell P_allow) l_clo (cnsA (kst (.int 1)) (cnsA (kst (.int 2)) nilA))) nilA))))) (mkL (litL (cnsA (bC tupF (cnsA (kst (.int 0)) (cnsA (kst (.int 3)) nilA))) (cnsA (bC tupF (cnsA (kst (.int 0)) (cnsA (kst (.int 1)) (cnsA (kst (.int 2)) (cnsA (kst (.int 3)) nilA))))) (cnsA (bC tupF (cnsA (kst (.int 0)) nilA)) nilA))))))
theorem q_law_eq : q_law = seqS (forS l_six (gN 2) l_turn) (seqS (ifS (bnt (tst l_mr)) no_ nxS) (seqS (setF 8 l_far) l_ret)) := by
  unfold q_law
  rfl
def rL (m : Addr) (x2 x3 x4 x5 x6 x7 x8 : Sl) : Slots := [.no, .fz (.adr m), x2, x3, x4, x5, x6, x7, x8]
theorem al_no {p : Slots → S → R Bool} {ρ : Slots} {s : S} {Q : S → Prop} (h : Al (fun v s => v = false ∧ Q s) (p (allS ρ) s)) : Al (fun f s => ∃ ρ', f = .nx ρ' ∧ ρ' = ρ ∧ Q s) (ifS p no_ nxS ρ s) := by
  unfold ifS
  refine Al.bind h fun v s ⟨e, hq⟩ => ?_
  subst e
  exact .ok ⟨ρ, rfl, rfl, hq⟩
theorem al_nt {f : Slots → S → R D} {ρ : Slots} {s : S} {Q : S → Prop} (h : Al (fun d s => d = .bl true ∧ Q s) (f ρ s)) : Al (fun v s => v = false ∧ Q s) (bnt (tst f) ρ s) := by
  unfold bnt tst
  refine Al.bind (P := fun v s => v = true ∧ Q s) (Al.bind h fun d s ⟨e, hq⟩ => by subst e; exact .ok ⟨rfl, hq⟩) fun v s ⟨e, hq⟩ => by
    subst e
    exact .ok ⟨rfl, hq⟩
theorem al_bor {p r : Slots → S → R Bool} {ρ : Slots} {s : S} {Q1 Q2 : S → Prop} (h : Al (fun v s => v = false ∧ Q1 s) (p ρ s)) (h2 : ∀ s, Q1 s → Al (fun v s => v = false ∧ Q2 s) (r ρ s)) : Al (fun v s => v = false ∧ Q2 s) (bor p r ρ s) := by
  unfold bor
  refine Al.bind h fun v s ⟨e, hq⟩ => ?_
  subst e
  rw [if_neg Bool.false_ne_true]
  exact h2 s hq
theorem al_set {i : Nat} {f : Slots → S → R D} {ρ : Slots} {s : S} {P : D → S → Prop} (h : Al P (f ρ s)) : Al (fun g s => ∃ ρ', g = .nx ρ' ∧ ∃ d, ρ' = ρ.set i (.fz d) ∧ P d s) (setF i f ρ s) := by
  unfold setF
  exact Al.bind h fun d s hp => .ok ⟨_, rfl, d, rfl, hp⟩
theorem l_net_al (i : Int) (x3 x4 x5 x6 x7 x8 : Sl) (hb : b ≤ 40000) : Al (fun d s => ∃ e l k c, d = netDD e l k c ∧ OkW e l k c ∧ s = ms m a q (b + 601)) (l_net (rL m (.fz (.int i)) x3 x4 x5 x6 x7 x8) (ms m a q b)) := by
  have dr : ∀ s, bC F_draw (cnsA (vr 1) (cnsA (kst (.int 6)) nilA)) (rL m (.fz (.int i)) x3 x4 x5 x6 x7 x8) s = F_draw [.adr m, .int 6] s := fun s => rfl
  have mid : Al (fun d s => ∃ j : Int, d = .int j ∧ 1 ≤ j ∧ j ≤ 6 ∧ s = ms m a q (b + 1)) (b2 plusF (kst (.int 1)) (b2 modF (b2 plusF (vr 2) (bC F_draw (cnsA (vr 1) (cnsA (kst (.int 6)) nilA)))) (kst (.int 6))) (rL m (.fz (.int i)) x3 x4 x5 x6 x7 x8) (ms m a q b)) := by
    show Al _ ((((bC F_draw (cnsA (vr 1) (cnsA (kst (.int 6)) nilA)) (rL m (.fz (.int i)) x3 x4 x5 x6 x7 x8) (ms m a q b)).bind fun y s => plusF (.int i) y s).bind fun x s => modF x (.int 6) s).bind fun y s => plusF (.int 1) y s)
    rw [dr]
    refine Al.bind (P := fun d s => ∃ j : Int, d = .int j ∧ 0 ≤ j ∧ j < 6 ∧ s = ms m a q (b + 1)) ?_ fun d s ⟨j, e1, j0, j1, e2⟩ => by
      subst e1 e2
      exact .ok ⟨1 + j, rfl, by omega, by omega, rfl⟩
    refine Al.bind (P := fun d s => ∃ j : Int, d = .int j ∧ s = ms m a q (b + 1)) ?_ fun d s ⟨j, e1, e2⟩ => by
      subst e1 e2
      exact .ok ⟨j % 6, rfl, Int.emod_nonneg _ (by decide), Int.emod_lt_of_pos _ (by decide), rfl⟩
    refine Al.bind (al_draw (by decide) (by decide) (by omega)) fun d s ⟨⟨j, e1, _⟩, e2⟩ => by
      subst e1 e2
      exact .ok ⟨i + j, rfl, rfl⟩
  unfold l_net bC
  refine Al.bind (P := fun ds s => ∃ j : Int, ds = [.adr m, .int j, .int 12] ∧ 1 ≤ j ∧ j ≤ 6 ∧ s = ms m a q (b + 1)) ?_ fun ds s ⟨j, e1, j0, j1, e2⟩ => ?_
  · show Al _ (((b2 plusF (kst (.int 1)) (b2 modF (b2 plusF (vr 2) (bC F_draw (cnsA (vr 1) (cnsA (kst (.int 6)) nilA)))) (kst (.int 6))) (rL m (.fz (.int i)) x3 x4 x5 x6 x7 x8) (ms m a q b)).bind fun x s => R.ok [x, .int 12] s).bind fun xs s => R.ok (D.adr m :: xs) s)
    refine Al.bind (P := fun ds s => ∃ j : Int, ds = [.int j, .int 12] ∧ 1 ≤ j ∧ j ≤ 6 ∧ s = ms m a q (b + 1)) ?_ fun ds s ⟨j, e1, j0, j1, e2⟩ => by
      subst e1
      exact .ok ⟨j, rfl, j0, j1, e2⟩
    refine Al.bind mid fun d s ⟨j, e1, j0, j1, e2⟩ => by
      subst e1
      exact .ok ⟨j, rfl, j0, j1, e2⟩
  · subst e1 e2
    unfold nF
    rw [if_pos (by rfl)]
    exact (net_al (m := m) (a := a) (q := q) j0 j1 (by omega)).noex.imp fun d s ⟨e, l, k, c, e1, o, e2⟩ => ⟨e, l, k, c, e1, o, by rw [e2, show b + 1 + 600 = b + 601 by omega]⟩
def wS (e l k : Nat) (c : Cf) : Str := (tabDD e l c).py.shown
theorem kept_eq (o : OkW e l k c) {ρ : Slots} {s : S} (h : vr 4 ρ s = .ok (wayD e l k c) s) : l_kept ρ s = .ok (.str (wS e l k c)) s := by
  unfold l_kept
  rw [bC1 (f := b1 (fldF 0 3) (vr 4)) (d := tabDD e l c) (s' := s) (by rw [b1_ok h]; rfl)]
  exact if_pos (repr_tab o)
theorem way_in (o : OkW e l k c) {ρ : Slots} {s : S} (h : vr 3 ρ s = .ok (netDD e l k c) s) : l_way ρ s = .ok (wayD e l k c) s := by
  unfold l_way
  rw [bC1 h]
  unfold nF
  rw [if_pos (by rfl)]
  unfold neF
  rw [lway_eq o]
  rfl
/-- the slots within a turn -/
def rW (m : Addr) (x2 : Sl) (e l k : Nat) (c : Cf) (x7 x8 : Sl) : Slots := rL m x2 (.fz (netDD e l k c)) (.fz (wayD e l k c)) (.fz (wayD e l k c)) (.fz (.str (wS e l k c))) x7 x8
theorem g3_of {F : List D → S → R D} {x2 x7 x8 : Sl} (s : S) : bC (nF 3 (neF F)) (cnsA (vr 1) (cnsA (vr 3) (cnsA (vr 4) nilA))) (allS (rW m x2 e l k c x7 x8)) s = noex (F [.adr m, netDD e l k c, wayD e l k c] s) := by
  rw [bC_of (ds := [.adr m, netDD e l k c, wayD e l k c]) (s' := s) rfl]
  exact nF_of (n := 3) (F := neF F) (ds := [.adr m, netDD e l k c, wayD e l k c]) rfl
theorem l_in_al (o : OkW e l k c) (x2 x7 x8 : Sl) (hb : b ≤ 40000) : Al (fun f s => ∃ ρ', f = .nx ρ' ∧ ρ' = rW m x2 e l k c x7 x8 ∧ ∃ b', s = ms m a q b' ∧ b' ≤ b + 18) (l_in (rW m x2 e l k c x7 x8) (ms m a q b)) := by
  unfold l_in
  refine al_seq (P1 := fun ρ' s => ρ' = rW m x2 e l k c x7 x8 ∧ ∃ b', s = ms m a q b' ∧ b' ≤ b + 18) ?_ ?_
  · refine al_no (Q := fun s => ∃ b', s = ms m a q b' ∧ b' ≤ b + 18) (al_bor (Q1 := fun s => ∃ b', s = ms m a q b' ∧ b' ≤ b + 9) (al_nt ?_) fun s ⟨b', e1, hb'⟩ => al_nt ?_)
    · unfold l_cr
      rw [g3_of]
      exact (closing_right_true (m := m) (a := a) (q := q) o (by omega)).noex.imp fun d s ⟨e1, b', e2, h⟩ => ⟨e1, b', e2, h⟩
    · subst e1
      unfold l_ar
      rw [g3_of]
      exact (allowing_right_true (m := m) (a := a) (q := q) o (by omega)).noex.imp fun d s ⟨e1, b2, e2, h⟩ => ⟨e1, b2, e2, by omega⟩
  · rintro ρ s ⟨rfl, b', rfl, hb'⟩
    have t : l_same (allS (rW m x2 e l k c x7 x8)) (ms m a q b') = .ok false (ms m a q b') := by
      have v4 : vr 4 (allS (rW m x2 e l k c x7 x8)) (ms m a q b') = .ok (wayD e l k c) (ms m a q b') := rfl
      have v5 : vr 5 (allS (rW m x2 e l k c x7 x8)) (ms m a q b') = .ok (wayD e l k c) (ms m a q b') := rfl
      have v6 : vr 6 (allS (rW m x2 e l k c x7 x8)) (ms m a q b') = .ok (.str (wS e l k c)) (ms m a q b') := rfl
      have t1 : tst (b2 (strF true) l_kept (vr 6)) (allS (rW m x2 e l k c x7 x8)) (ms m a q b') = .ok false (ms m a q b') := by
        refine tst_ok ?_
        rw [b2_ok (kept_eq o v4) v6, ne_str]
      have t2 : tst (b2 (fun x y s => tell (P_eqw true) [x, y] s) (vr 4) (vr 5)) (allS (rW m x2 e l k c x7 x8)) (ms m a q b') = .ok false (ms m a q b') := by
        refine tst_ok ?_
        rw [b2_ok v4 v5]
        exact neqw_self o _
      unfold l_same bor
      rw [t1]
      show (if false = true then R.ok true (ms m a q b') else _) = _
      rw [if_neg Bool.false_ne_true, t2]
      rfl
    rw [if_no t]
    exact .ok ⟨_, rfl, rfl, b', rfl, hb'⟩
theorem six_eq (ρ : Slots) (s : S) : l_six ρ s = .ok (rngD 0 6) s := rfl
theorem l_turn_al (i : Int) (x3 x4 x5 x6 x7 x8 : Sl) (hb : b ≤ 30000) : Al (fun f s => ∃ ρ', f = .nx ρ' ∧ ∃ y2 y3 y4 y5 y6 y7 b', ρ' = rL m y2 y3 y4 y5 y6 y7 x8 ∧ s = ms m a q b' ∧ b' ≤ b + 1000) (l_turn (rL m (.fz (.int i)) x3 x4 x5 x6 x7 x8) (ms m a q b)) := by
  unfold l_turn
  refine al_seq (P1 := fun ρ s => ∃ e l k c, OkW e l k c ∧ ρ = rL m (.fz (.int i)) (.fz (netDD e l k c)) x4 x5 x6 x7 x8 ∧ s = ms m a q (b + 601)) ((al_set (l_net_al (a := a) (q := q) i x3 x4 x5 x6 x7 x8 (by omega))).imp fun f s ⟨ρ', e1, d, e2, e, l, k, c, e3, o, e4⟩ => ⟨ρ', e1, e, l, k, c, o, by rw [e2, e3]; rfl, e4⟩) ?_
  rintro ρ s ⟨e, l, k, c, o, rfl, rfl⟩
  obtain ⟨st, hst⟩ : ∃ st, st = ms m a q (b + 601) := ⟨_, rfl⟩
  rw [← hst]
  have w4 : setF 4 l_way (rL m (.fz (.int i)) (.fz (netDD e l k c)) x4 x5 x6 x7 x8) st = .ok (.nx (rL m (.fz (.int i)) (.fz (netDD e l k c)) (.fz (wayD e l k c)) x5 x6 x7 x8)) st := set_ok (way_in o rfl)
  have w5 : l_par (rL m (.fz (.int i)) (.fz (netDD e l k c)) (.fz (wayD e l k c)) x5 x6 x7 x8) st = .ok (.nx (rW m (.fz (.int i)) e l k c x7 x8)) st := by
    have h := cns_ok (way_in o (ρ := rL m (.fz (.int i)) (.fz (netDD e l k c)) (.fz (wayD e l k c)) x5 x6 x7 x8) (s := st) rfl) (cns_ok (kept_eq o (ρ := rL m (.fz (.int i)) (.fz (netDD e l k c)) (.fz (wayD e l k c)) x5 x6 x7 x8) (s := st) rfl) (show nilA _ st = .ok [] st from rfl))
    unfold l_par parS
    rw [h]
    rfl
  rw [seq_nx w4, seq_nx w5]
  subst hst
  refine al_seq (P1 := fun ρ s => ρ = rW m (.fz (.int i)) e l k c x7 x8 ∧ s = ms m a q (b + 603)) ?_ ?_
  · refine al_no (Q := fun s => s = ms m a q (b + 603)) (al_bor (Q1 := fun s => s = ms m a q (b + 603)) (al_nt ?_) fun s e1 => al_nt ?_)
    · unfold l_names
      rw [g3_of]
      exact (names_right_true (m := m) (a := a) (q := q) o (by omega)).noex.imp fun d s ⟨e1, e2⟩ => ⟨e1, by rw [e2, show b + 601 + 2 = b + 603 by omega]⟩
    · subst e1
      unfold l_mirr
      rw [bC_of (ds := [netDD e l k c, wayD e l k c]) (s' := ms m a q (b + 603)) rfl]
      unfold nF
      rw [if_pos (by rfl)]
      unfold neF
      rw [mirrored_right_true o]
      exact .ok ⟨rfl, rfl⟩
  · rintro ρ s ⟨rfl, rfl⟩
    refine (al_for (v := 7) (F := l_in) (n := 6) (fun n ρ s => ∃ x7 b', ρ = rW m (.fz (.int i)) e l k c x7 x8 ∧ s = ms m a q b' ∧ b' + n * 18 ≤ b + 603 + 6 * 18) _ _ (six_eq _ _) ⟨x7, b + 603, rfl, rfl, by omega⟩ ?_).imp fun f s ⟨ρ', e1, y7, b', e2, e3, h⟩ => ⟨ρ', e1, _, _, _, _, _, y7, b', e2, e3, by omega⟩
    rintro t ht n ρ s ⟨y7, b', rfl, rfl, h⟩
    exact (l_in_al (a := a) (q := q) o (.fz (.int i)) (.fz (.int (t : Nat))) x8 (by omega)).imp fun f s ⟨ρ', e1, e2, b2, e3, h2⟩ => ⟨ρ', e1, _, b2, e2, e3, by omega⟩
def C4 : Cf := put2 (fun _ _ => rangeI 4) 1 2 (sortU 4 [3, 0, 3])
theorem ok4 : OkW 2 3 4 (fun _ _ => rangeI 4) := ⟨by decide, by decide, by decide, by decide, by decide, by decide, fun _ _ _ _ => cell_range (by decide)⟩
theorem okC4 : OkW 2 3 4 C4 := put_ok ok4 (sortU_cell (by decide) (by decide))
theorem far_eq (ρ : Slots) (s : S) : l_far ρ s = .ok (wayD 2 3 4 C4) s := by
  unfold l_far
  refine (star_ok (c := 0) (ds := intsD [1, 2, 3, 0, 3]) (zs := []) (show bC F_wayN (cnsA (kst (.int 2)) (cnsA (kst (.int 3)) (cnsA (kst (.int 4)) nilA))) ρ s = .ok (wayD 2 3 4 fun _ _ => rangeI 4) s from rfl) (by rfl) (by rfl) (by rfl) (by rfl) (by decide) (by rfl)).trans ?_
  have := allowing_eq (ns := [3, 0, 3]) (i := 1) (j := 2) ok4 (by decide) (by decide) (by decide) (by decide) s
  rw [if_neg (by decide)] at this
  exact this
theorem ret_eq (x2 x3 x4 x5 x6 x7 : Sl) (s : S) : l_ret (rL m x2 x3 x4 x5 x6 x7 (.fz (wayD 2 3 4 C4))) s = .ok (.rt (.bl true)) s := by
  obtain ⟨ρ, hρ⟩ : ∃ ρ, ρ = allS (rL m x2 x3 x4 x5 x6 x7 (.fz (wayD 2 3 4 C4))) := ⟨_, rfl⟩
  have v8 : vr 8 ρ s = .ok (wayD 2 3 4 C4) s := by rw [hρ]; rfl
  have a1 : metF 0 3 (tell P_allow) (vr 8) (cnsA (kst (.int 1)) (cnsA (kst (.int 2)) nilA)) ρ s = .ok (.tup (intsD (C4 1 2))) s := by
    rw [metF_ok (c := 0) v8 (show cnsA (kst (.int 1)) (cnsA (kst (.int 2)) nilA) ρ s = .ok [.int 1, .int 2] s from rfl)]
    exact (nF_of (n := 3) (ds := [wayD 2 3 4 C4, .int 1, .int 2]) rfl).trans (allow_eq okC4 (i := 1) (j := 2) (by decide) (by decide) s)
  have a2 : metF 0 3 (tell P_allow) (vr 8) (cnsA (kst (.int 0)) (cnsA (kst (.int 2)) nilA)) ρ s = .ok (.tup (intsD (C4 0 2))) s := by
    rw [metF_ok (c := 0) v8 (show cnsA (kst (.int 0)) (cnsA (kst (.int 2)) nilA) ρ s = .ok [.int 0, .int 2] s from rfl)]
    exact (nF_of (n := 3) (ds := [wayD 2 3 4 C4, .int 0, .int 2]) rfl).trans (allow_eq okC4 (i := 0) (j := 2) (by decide) (by decide) s)
  have hbad : (pairsL 2 3).any (badP C4 [3] (some 1) none) = false := by decide +kernel
  have oL := lessW_ok (ns := [3]) (ro := some 1) (lo := none) okC4 hbad
  have a3 : l_clo ρ s = .ok (wayD 2 3 4 (lessW C4 [3] (some 1) none)) s := by
    unfold l_clo
    refine (star_ok (c := 0) (ds := intsD [3]) (zs := [.int 1]) v8 (by rfl) (by rfl) (by rfl) (by rfl) (by decide) (by rfl)).trans ?_
    have := closing_eq (ns := [3]) (ro := some 1) (lo := none) okC4 (fun _ x => by cases x; decide) (fun _ x => by cases x) (by decide) (by decide) s
    rw [hbad, if_neg Bool.false_ne_true] at this
    exact this
  have a4 : metF 0 3 (tell P_allow) l_clo (cnsA (kst (.int 1)) (cnsA (kst (.int 2)) nilA)) ρ s = .ok (.tup (intsD (lessW C4 [3] (some 1) none 1 2))) s := by
    rw [metF_ok (c := 0) a3 (show cnsA (kst (.int 1)) (cnsA (kst (.int 2)) nilA) ρ s = .ok [.int 1, .int 2] s from rfl)]
    exact (nF_of (n := 3) (ds := [wayD 2 3 4 (lessW C4 [3] (some 1) none), .int 1, .int 2]) rfl).trans (allow_eq oL (i := 1) (j := 2) (by decide) (by decide) s)
  have e1 : C4 1 2 = [0, 3] := by decide +kernel
  have e2 : C4 0 2 = [0, 1, 2, 3] := by decide +kernel
  have e3 : lessW C4 [3] (some 1) none 1 2 = [0] := by decide +kernel
  rw [e1] at a1
  rw [e2] at a2
  rw [e3] at a4
  have l1 := lit_ok (cns_ok a1 (cns_ok a2 (cns_ok a4 (show nilA ρ s = .ok [] s from rfl)))) (by show 3 ≤ 12; decide)
  have l2 : mkL (litL (cnsA (bC tupF (cnsA (kst (.int 0)) (cnsA (kst (.int 3)) nilA))) (cnsA (bC tupF (cnsA (kst (.int 0)) (cnsA (kst (.int 1)) (cnsA (kst (.int 2)) (cnsA (kst (.int 3)) nilA))))) (cnsA (bC tupF (cnsA (kst (.int 0)) nilA)) nilA)))) ρ s = .ok (.lst [.tup (intsD [0, 3]), .tup (intsD [0, 1, 2, 3]), .tup (intsD [0])]) s := rfl
  refine ret_ok ?_
  rw [← hρ, b2_ok l1 l2]
  rfl
def isTrue' (f : Fl) (_ : S) : Prop := f = .rt (.bl true)
def slots0 (m : Addr) : Slots := rL m .no .no .no .no .no .no .no
theorem law_true : Al isTrue' (q_law (slots0 m) (ms m a q 0)) := by
  rw [q_law_eq]
  refine al_seq (P1 := fun ρ s => ∃ y2 y3 y4 y5 y6 y7 b', ρ = rL m y2 y3 y4 y5 y6 y7 .no ∧ s = ms m a q b' ∧ b' ≤ 6000) ((al_for (v := 2) (F := l_turn) (n := 6) (fun n ρ s => ∃ y2 y3 y4 y5 y6 y7 b', ρ = rL m y2 y3 y4 y5 y6 y7 .no ∧ s = ms m a q b' ∧ b' + n * 1000 ≤ 6000) _ _ (six_eq _ _) ⟨_, _, _, _, _, _, 0, rfl, rfl, by omega⟩ ?_).imp fun f s ⟨ρ', e1, y2, y3, y4, y5, y6, y7, b', e2, e3, h⟩ => ⟨ρ', e1, y2, y3, y4, y5, y6, y7, b', e2, e3, by omega⟩) ?_
  · rintro t ht n ρ s ⟨y2, y3, y4, y5, y6, y7, b', rfl, rfl, h⟩
    exact (l_turn_al (a := a) (q := q) (t : Nat) y3 y4 y5 y6 y7 .no (by omega)).imp fun f s ⟨ρ', e1, z2, z3, z4, z5, z6, z7, b2, e2, e3, h2⟩ => ⟨ρ', e1, z2, z3, z4, z5, z6, z7, b2, e2, e3, by omega⟩
  · rintro ρ s ⟨y2, y3, y4, y5, y6, y7, b', rfl, rfl, hb'⟩
    refine al_seq (P1 := fun ρ s => ρ = rL m y2 y3 y4 y5 y6 y7 .no) ?_ ?_
    · refine (al_no (Q := fun _ => True) (al_nt ?_)).imp fun f s ⟨ρ', e1, e2, _⟩ => ⟨ρ', e1, e2⟩
      unfold l_mr
      rw [bC1 (d := .adr m) (s' := ms m a q b') rfl]
      unfold nF
      rw [if_pos (by rfl)]
      exact (many_right_true (m := m) (c0 := a) (q0 := q) (by omega)).noex.imp fun d s ⟨e1, _⟩ => ⟨e1, trivial⟩
    · rintro ρ s rfl
      rw [seq_nx (set_ok (far_eq _ _))]
      rw [show (rL m y2 y3 y4 y5 y6 y7 .no).set 8 (.fz (wayD 2 3 4 C4)) = rL m y2 y3 y4 y5 y6 y7 (.fz (wayD 2 3 4 C4)) from rfl, ret_eq]
      exact .ok rfl
end
end W2

/-! PyL: the law. -/
namespace W2
open PySem PySem.Spec PyProof.Rows L2 Pg Pf LamX Pp Tab Rul
@[irreducible] noncomputable def p_law : Slots → S → R Fl := q_law
theorem p_law_eq : p_law = q_law := by unfold p_law; rfl
def spLaw (K : PySem.W.Frag) (T : List (Addr × Str)) : Sp := fun vs H Q _ => ∃ (a : Addr) (ns : List Int), vs = [.ref a] ∧ SqL K H a (ns.map V.int) ∧ ns.length ≤ 63 ∧ Tabs T H ∧ ∀ H', Q (.bl true) H'
theorem al_ans {K : PySem.W.Frag} {Z : Zn} {E : XK} {s0 : S} {G0 H0 G : Hp} {D : Ends} {r : R Fl} (h : Al isTrue' r) (q : ∀ H, D.rt (.bl true) H) : AnsS K Z E r s0 G0 H0 G D := by
  induction h with
  | ok h =>
    have e := h
    unfold isTrue' at e
    subst e
    intro v V' H' n w r
    cases r
    exact q H'
  | dr h ih => exact fun i h0 h1 => ih i h0 h1
  | an h ih => exact fun d s hp => ih d s hp
theorem law_true' (m c q : Addr) : Al isTrue' (p_law (slots0 m) (some ⟨m, c, q, 0⟩)) := by
  rw [p_law_eq]
  exact law_true
section
variable {P : Program} {w : World} {K : PySem.W.Frag} {mg : Str → Option Value} {base : Heap} {Z : Zn} {f : Addr} {fd : FuncData}
theorem ok_law (B : Bt mg) (cB : CalG P w K mg base 3 "_law_begun" (spBegun K)) (cD : CalG P w K mg base 3 "_law_draw" spDraw) (cNet : CalG P w K mg base 5 "_law_net" (spG K Z 3 (tell P_net))) (cLway : CalG P w K mg base 8 "_law_way" (spG K Z 1 (tell P_lway)))
    (cNames : CalG P w K mg base 11 "_law_names_right" (spG K Z 3 (runS p__law_names_right N__law_names_right.length))) (cMir : CalG P w K mg base 10 "_law_mirrored_right" (spG K Z 2 (runS p__law_mirrored_right N__law_mirrored_right.length)))
    (cCr : CalG P w K mg base 11 "_law_closing_right" (spG K Z 3 (runS p__law_closing_right N__law_closing_right.length))) (cAr : CalG P w K mg base 11 "_law_allowing_right" (spG K Z 3 (runS p__law_allowing_right N__law_allowing_right.length))) (cMr : CalG P w K mg base 11 "_law_many_right" (spG K Z 1 (runS p__law_many_right N__law_many_right.length)))
    (pTable : Pr P w K mg base (Z.cl 0) "table" "_table") (we : We P w K mg base 2 5 (Z.cl 0) (spEqW K (Z.cl 0)) (spLenW K (Z.cl 0))) (nfC : PySem.W.notFirst K (Z.cl 0) (.ref (Z.cl 0)) = true) (tyC : ∀ {H : Hp} {a dx : Addr} {fs : List (Str × L2.V)}, H a = some (.ins (Z.cl 0) dx fs) → TyX K H (.ref a) (.ref (Z.cl 0)))
    {fC fA DC : Addr} {docC pmC cdC ctC kvA docA pmA cdA ctA : Value} {anC anA : Option Addr} (mClo : MetS P w K mg base Z 7 0 "closing" psC (runS p_Way_closing N_Way_closing.length) fC (fdC .none (.ref DC) docC pmC anC cdC ctC)) (mAllw : MetS P w K mg base Z 7 0 "allowing" psC (runS p_Way_allowing N_Way_allowing.length) fA (fdA .none kvA docA pmA anA cdA ctA))
    (kwR : PySem.W.nsIn K DC "right" = some (some .none)) (kwL : PySem.W.nsIn K DC "left" = some (some .none))
    (mkW : Ma P w K mg base 4 "Way" (Z.cl 0) (spInit K (Z.cl 0))) (mAl : MetD P w K mg base Z 4 0 "allowed" 3 (tell P_allow))
    (F : Fun K "law" "law" s_law f fd) : FnG P w K mg base 12 f fd ["_law_script"] (spLaw K Z.T) := by
  have naC : ("closing" : Str) ∉ nm 0 := by decide +kernel
  have naA : ("allowing" : Str) ∉ nm 0 := by decide +kernel
  have naW : ("allowed" : Str) ∉ nm 0 := by decide +kernel
  refine okG F sc_law (fun vs H Q E h => ?_) (fun cdv A outer s H vs Q E hr hgd h => ?_)
  · obtain ⟨a, ns, rfl, _⟩ := h
    rfl
  obtain ⟨a, ns, rfl, hS, hl, tT, fin⟩ := h
  have nd := sc_law.nd
  refine ⟨_, pss_cons (ps_set (i := 1) nd rfl (Or.inl rfl) (pe_cG cB hr (by decide) hgd rfl (pa_cons (pv 0) pa_nil)))
    (pss_cons (ps_for PassesOwn.never rfl (pi_range1 rfl B.range (pa_cons pe_int pa_nil)) (pg_name (i := 2) nd rfl (Or.inl rfl))
    (pss_cons (ps_set (i := 3) nd rfl (Or.inl rfl) (pe_cG cNet hr (by decide) hgd rfl (pa_cons (pv 1) (pa_cons (pe_op op_plus pe_int (pe_op op_mod (pe_op op_plus (pv 2) (pe_cG cD hr (by decide) hgd rfl (pa_cons (pv 1) (pa_cons pe_int pa_nil)))) pe_int)) (pa_cons pe_int pa_nil)))))
    (pss_cons (ps_set (i := 4) nd rfl (Or.inl rfl) (pe_cG cLway hr (by decide) hgd rfl (pa_cons (pv 3) pa_nil)))
    (pss_cons (ps_par (i := 5) (j := 6) rfl nd rfl rfl (by decide) rfl rfl (pa_cons (pe_cG cLway hr (by decide) hgd rfl (pa_cons (pv 3) pa_nil)) (pa_cons (pe_callB (show CallR _ (.builtin "repr") (rReprD _) from call_reprD hgd hr.units) (by rfl) B.repr (by decide +kernel) (pa_cons (pe_pr pTable hr (by decide) (pv 4)) pa_nil)) pa_nil)) rfl)
    (pss_cons (ps_if (PW.pt (pw_or (pt_not (pt_val (pe_cG cNames hr (by decide) hgd rfl (pa_cons (pv 1) (pa_cons (pv 3) (pa_cons (pv 4) pa_nil)))))) (pw_or1 (pt_not (pt_val (pe_cG cMir hr (by decide) hgd rfl (pa_cons (pv 3) (pa_cons (pv 4) pa_nil)))))))) (pss_one (ps_ret pe_bl)) pss_nil)
    (pss_one (ps_for PassesOwn.never rfl (pi_range1 rfl B.range (pa_cons pe_int pa_nil)) (pg_name (i := 7) nd rfl (Or.inl rfl))
    (pss_cons (ps_if (PW.pt (pw_or (pt_not (pt_val (pe_cG cCr hr (by decide) hgd rfl (pa_cons (pv 1) (pa_cons (pv 3) (pa_cons (pv 4) pa_nil)))))) (pw_or1 (pt_not (pt_val (pe_cG cAr hr (by decide) hgd rfl (pa_cons (pv 1) (pa_cons (pv 3) (pa_cons (pv 4) pa_nil))))))))) (pss_one (ps_ret pe_bl)) pss_nil)
    (pss_one (ps_if (PW.pt (pw_or (pt_cmpR op_ne (pe_callB (show CallR _ (.builtin "repr") (rReprD _) from call_reprD hgd hr.units) (by rfl) B.repr (by decide +kernel) (pa_cons (pe_pr pTable hr (by decide) (pv 4)) pa_nil)) (pv 6) (nomark _)) (pw_or1 (pt_cmpR (op_neW we hr (by decide)) (pv 4) (pv 5) (nomark _))))) (pss_one (ps_ret pe_bl)) pss_nil))))))))))
    (pss_cons (ps_if (pt_not (pt_val (pe_cG cMr hr (by decide) hgd rfl (pa_cons (pv 1) pa_nil)))) (pss_one (ps_ret pe_bl)) pss_nil)
    (pss_cons (ps_set (i := 8) nd rfl (Or.inl rfl) (pe_star mAllw ba_5 hr (by decide) passX0 (pe_ma mkW hr (by decide) rfl (pa_cons pe_int (pa_cons pe_int (pa_cons pe_int pa_nil)))) (pa_cons pe_int (pa_cons pe_int (pa_cons pe_int (pa_cons pe_int (pa_cons pe_int pa_nil))))) pk_nil))
    (pss_one (ps_ret (pe_cmpR (op_eqD hr.units) (pe_lst (pa_cons (PP.pe (pp_meth mAl hr (by decide) passX0 ⟨(pv 8), (c_var 8)⟩ ⟨(pa_cons pe_int (pa_cons pe_int pa_nil)), (c_cons (c_c fun _ => .int _) (c_cons (c_c fun _ => .int _) c_nil))⟩)) (pa_cons (PP.pe (pp_meth mAl hr (by decide) passX0 ⟨(pv 8), (c_var 8)⟩ ⟨(pa_cons pe_int (pa_cons pe_int pa_nil)), (c_cons (c_c fun _ => .int _) (c_cons (c_c fun _ => .int _) c_nil))⟩)) (pa_cons (PP.pe (pp_meth mAl hr (by decide) passX0 ⟨(pe_star mClo (bd_r1 kwR kwL) hr (by decide) passX0 (pv 8) (pa_cons pe_int pa_nil) (pk_cons pe_int pk_nil)), (c_star naC dg_r (c_var 8) (c_cons (c_c fun _ => .int _) c_nil) (c_cons (c_c fun _ => .int _) c_nil))⟩ ⟨(pa_cons pe_int (pa_cons pe_int pa_nil)), (c_cons (c_c fun _ => .int _) (c_cons (c_c fun _ => .int _) c_nil))⟩)) pa_nil)))) (pe_lst (pa_cons (pe_tup (pa_cons pe_int (pa_cons pe_int pa_nil))) (pa_cons (pe_tup (pa_cons pe_int (pa_cons pe_int (pa_cons pe_int (pa_cons pe_int pa_nil))))) (pa_cons (pe_tup (pa_cons pe_int pa_nil)) pa_nil)))) (nomark _))))))), ?_⟩
  refine ⟨_, rfl, a, ns, rfl, hS, hl, fun m c q H1 s1 M => ?_⟩
  have cm : CmpS K Z E0 _ q_law := (cs_seq (cs_for (ci_rng1 (c_cons (c_c fun _ => .int _) c_nil)) (cg_name 2)
    (cs_seq (cs_setF 3 (c_callG (c_cons (c_var 1) (c_cons (c_op c2_plus (c_c fun _ => .int _) (c_op c2_mod (c_op c2_plus (c_var 2) (c_draw (c_cons (c_var 1) (c_cons (c_c fun _ => .int _) c_nil)))) (c_c fun _ => .int _))) (c_cons (c_c fun _ => .int _) c_nil)))))
    (cs_seq (cs_setF 4 (c_callG (c_cons (c_var 3) c_nil)))
    (cs_seq (cs_par 5 6 (c_cons (c_callG (c_cons (c_var 3) c_nil)) (c_cons (c_call cC_repr (c_cons (c_prop (E' := E0) (i := 3) (by decide +kernel) (by rfl) (c_var 4)) c_nil)) c_nil)))
    (cs_seq (cs_if (c_or (c_not (c_tB (c_callG (c_cons (c_var 1) (c_cons (c_var 3) (c_cons (c_var 4) c_nil)))))) (c_not (c_tB (c_callG (c_cons (c_var 3) (c_cons (c_var 4) c_nil)))))) (cs_ret (c_c fun _ => .bl _)) cs_next)
    (cs_for (ci_rng1 (c_cons (c_c fun _ => .int _) c_nil)) (cg_name 7)
    (cs_seq (cs_if (c_or (c_not (c_tB (c_callG (c_cons (c_var 1) (c_cons (c_var 3) (c_cons (c_var 4) c_nil)))))) (c_not (c_tB (c_callG (c_cons (c_var 1) (c_cons (c_var 3) (c_cons (c_var 4) c_nil))))))) (cs_ret (c_c fun _ => .bl _)) cs_next)
    (cs_if (c_or (c_tT (c_op c2_neS (c_call cC_repr (c_cons (c_prop (E' := E0) (i := 3) (by decide +kernel) (by rfl) (c_var 4)) c_nil)) (c_var 6))) (c_tT (c_op (c2_eqw rfl true nfC tyC) (c_var 4) (c_var 5)))) (cs_ret (c_c fun _ => .bl _)) cs_next))))))))
    (cs_seq (cs_if (c_not (c_tB (c_callG (c_cons (c_var 1) c_nil)))) (cs_ret (c_c fun _ => .bl _)) cs_next)
    (cs_seq (cs_setF 8 (c_star naA dg_t (c_mkWay rfl (c_cons (c_c fun _ => .int _) (c_cons (c_c fun _ => .int _) (c_cons (c_c fun _ => .int _) c_nil)))) (c_cons (c_c fun _ => .int _) (c_cons (c_c fun _ => .int _) (c_cons (c_c fun _ => .int _) (c_cons (c_c fun _ => .int _) (c_cons (c_c fun _ => .int _) c_nil))))) c_nil))
    (cs_ret (c_op c2_eqD (c_mkL (cl_lit (c_cons (c_meth naW (c_var 8) (c_cons (c_c fun _ => .int _) (c_cons (c_c fun _ => .int _) c_nil))) (c_cons (c_meth naW (c_var 8) (c_cons (c_c fun _ => .int _) (c_cons (c_c fun _ => .int _) c_nil))) (c_cons (c_meth naW (c_star naC dg_r (c_var 8) (c_cons (c_c fun _ => .int _) c_nil) (c_cons (c_c fun _ => .int _) c_nil)) (c_cons (c_c fun _ => .int _) (c_cons (c_c fun _ => .int _) c_nil))) c_nil))))) (c_mkL (cl_lit (c_cons (c_tup (c_cons (c_c fun _ => .int _) (c_cons (c_c fun _ => .int _) c_nil))) (c_cons (c_tup (c_cons (c_c fun _ => .int _) (c_cons (c_c fun _ => .int _) (c_cons (c_c fun _ => .int _) (c_cons (c_c fun _ => .int _) c_nil))))) (c_cons (c_tup (c_cons (c_c fun _ => .int _) c_nil)) c_nil))))))))))
  rw [← p_law_eq] at cm
  refine cm (some ⟨m, c, q, 0⟩) (fun _ => none) H1 (fun _ => none) H1 _ (slots0 m) (some ⟨m, c, q, 0⟩) _ ⟨Nx.refl _ _ _, ⟨fun _ _ e => (by cases e), fun _ _ e => (by cases e), tT.ext s1, M.ob, M.cs, M.gs, rfl, rfl, rfl, M.cq⟩, ⟨fun i d e => ?_, fun i o e => ?_, rfl⟩, fun i o _ e _ => ?_, fun i _ o _ _ _ e _ _ _ => ?_, rfl⟩ (al_ans (law_true' m c q) fin)
  · match i, e with
    | 1, e =>
      cases e
      exact ⟨.ref m, rfl, .adr m⟩
    | 0, e | 2, e | 3, e | 4, e | 5, e | 6, e | 7, e | 8, e => cases e
    | n + 9, e => cases e
  all_goals
    match i, e with
    | 0, e | 1, e | 2, e | 3, e | 4, e | 5, e | 6, e | 7, e | 8, e => cases e
    | n + 9, e => cases e
end
end W2

namespace W2
open PySem PySem.Spec PyProof.Rows L2 Pg Pf
abbrev s_xi : Stmt := inClass (top 5) 0
abbrev x_qual : Str := "InvalidPlaces.__init__"
abbrev x_par : Str := "value"
abbrev x_fld : Str := "value"
/-- an own exception's __init__ that says super().__init__(text) and keeps one value -/
structure Xi (P : Program) (K : PySem.W.Frag) (C f : Addr) (fd : FuncData) : Prop where
  oex : OexC K C
  sub : PySem.W.subIn K (.ref C) (.type "ValueError") = some true
  own : PySem.W.mroIn K C (.ref C) = some true
  sup : PySem.W.ks_superIn K C C "__init__" = some (some (.builtin "ValueError.__init__"))
  ini : PySem.W.excInitIn K C PySem.HandSPX.veTail "ValueError.__new__" = true
  opq : PySem.W.nsIn K PySem.cStatics "thirdparty.any" = some none
  nof : PySem.W.findIn K (.ref C) x_fld = some none
  fn : ∃ (dV kV doc pm ct oc : Value) (an od : Option Addr) (osl : Array (Option Value)) (cc cda : Addr),
    fd = PySem.W.ksFn "__init__" x_qual (defArgs s_xi) (defBody s_xi) (defScope s_xi) dV kV doc pm an (.ref cda) ct cc ∧
    K.lookup f = some ⟨oc, od, .func fd, osl⟩ ∧ PySem.W.codeIn K (.ref cda) x_qual = true ∧
    (∃ (ccl : Value) (cdd : Option Addr) (cvs : Array Value) (ccs : Array (Option Value)) (file : Str) (tf : Tok), K.lookup cda = some ⟨ccl, cdd, .fields cvs, ccs⟩ ∧ cvs[2]? = some (.str file tf) ∧ ((P.main.file : Str) == file) = true) ∧
    (∃ (cl : Value) (cld : Option Addr) (csl : Array (Option Value)), K.lookup cc = some ⟨cl, cld, .cell (some (.ref C)), csl⟩)
  top : (P.main.scope.names.lookup ("super" : Str)).isSome = false
def spXi (C : Addr) (fld : Str) : Sp := fun vs H Q _ => ∃ (a : Addr) (y : V), vs = [.ref a, y] ∧ H a = some (exo a C none) ∧ ∀ dx, H dx = none → dx ≠ a → Q .non (upd (upd H dx (exd dx [(fld, y)])) a (exo a C (some dx)))
section
variable {P : Program} {w : World} {K : PySem.W.Frag} {mg : Str → Option Value} {base : Heap} {f C : Addr} {fd : FuncData}
theorem ok_xi (sm : mg "super" = none) (T : Xi P K C f fd) : FnOk P w K mg base CX0 1 f fd ["self", x_par] (spXi C x_fld) := by
  refine ⟨fun vs H Q E h => ?_, fun A outer s H args us vs Q E hr e0 hb rv h => ?_⟩
  · obtain ⟨a, y, rfl, _⟩ := h
    rfl
  obtain ⟨a, y, rfl, ha, q⟩ := h
  obtain ⟨u0, u1, rfl, r0, r1⟩ := vals2 rv
  obtain rfl : u0 = Value.ref a := r0
  obtain ⟨dV, kV, doc, pm, ct, oc, an, od, osl, cc, cda, rfl, lk, hcd, ⟨ccl, cdd, cvs, ccs, file, tf, hcode, hvs, hfile⟩, ⟨cl, cld, csl, hcell⟩⟩ := T.fn
  have KX : K.In s.heap := e0.mod.kin.keeps fun b o e => (e0.bs b o e).1
  have lim : s.heap.NoLimit := e0.mod.nolimit.keeps fun b o e => (e0.bs b o e).1
  obtain ⟨t1, ho⟩ := exo_at e0.hok ha
  refine PySem.ks_codeAny_call_defAt (body := defBody s_xi) (binds := [("self", .ref a), (x_par, u1)]) hr.depth (KX _ _ lk) rfl lim (PySem.W.codeRec_of KX hcd) rfl hb (show ∀ x ∈ (defScope s_xi).names, x.2 ≠ .cell by decide +kernel) (fun x hx => ?_) (fun h1 ns1 kp1 => ?_) rfl rfl rfl
  · rcases List.mem_cons.mp hx with rfl | hx
    · rfl
    · rcases List.mem_cons.mp hx with rfl | hx
      rfl
      nomatch hx
  have KX1 : K.In h1 := fun b o e => kp1 b o (KX b o e)
  refine PySem.ks_wpAt_execs_cons (PySem.ks_wpAt_Expr_any (PySem.ks_wpAt_MethodCall ?_))
  obtain ⟨nm, qn, NN, bs, bm, sn, sub, ab, col, dd, m0, m1, m2, m3, m5, hC, hbm⟩ := T.oex.cls
  have hcl : PySem.W.clsIn K C = some { name := nm, bases := bs, mro := .ref C :: bm, ns := NN, qualname := qn, hasDict := true, slotNames := sn, subclasses := sub, abstract := ab, collection := col, hasDel := false } := by
    unfold PySem.W.clsIn
    rw [hC]
  have keepB : ∀ b o, base.get? b = some o → h1.get? b = some o := fun b o e => kp1 b o (e0.bs b o e).1
  have ms : (fun x => ([("self", Value.ref a), (x_par, u1)] : List (Str × Value)).reverse.lookup x) ("self" : Str) = some (.ref a) := rfl
  have mp : (fun x => ([("self", Value.ref a), (x_par, u1)] : List (Str × Value)).reverse.lookup x) x_par = some u1 := rfl
  have ho1 := kp1 _ _ ho
  obtain ⟨mb, hmb, hbb⟩ := e0.mod.blt
  refine PySem.ks_wpAt_super_base (f := f) (cc := cda) rfl rfl (by decide +kernel) rfl (KX1 _ _ lk) rfl rfl rfl (KX1 _ _ hcode) rfl hvs hfile T.top ?_
  refine PySem.W.ks_loadName_global rfl rfl (Calls.loadGlobal_builtin (e0.mod.glob.keeps keepB) sm (hmb.keeps keepB) ((hbb _ (by decide)).trans PyProof.Rows.Boot.«super») ⟨rfl, ?_⟩)
  refine PySem.wpAny_loadName_free rfl rfl rfl ⟨_, KX1 _ _ hcell, rfl⟩ ?_
  refine PySem.wpAny_loadName_local rfl rfl ns1 ms ?_
  refine PySem.ks_wpAny_isType_cls (KX1 _ _ hC) rfl ⟨rfl, ?_⟩
  refine PySem.ks_wpAny_call_super (KX1 _ _ hC) rfl ho1 rfl (fun c z => by cases z) (PySem.W.looks_mroIn KX1 T.own) (fun h2 e2 kp2 => ?_)
  have KX2 : K.In h2 := fun b o e => kp2 b o (KX1 b o e)
  have hx2 := kp2 _ _ ho1
  have I2 : PySem.W.InstAt h2 a ({ cls := .ref C, data := .fields #[.ref t1, .none, .none, .none, .bool false, .none] } : Obj) C none := ⟨hx2, rfl, rfl, trivial⟩
  have hsup : PySem.W.alongIn K "__init__" (((Value.ref C :: bm).dropWhile (· != .ref C)).drop 1) = some (some (.builtin "ValueError.__init__")) := by
    have z := T.sup
    unfold PySem.W.ks_superIn at z
    rw [hcl] at z
    exact z
  refine PySem.W.kxs_getMethod PySem.W.kxs_ValueError e2 (PySem.W.looks_opaque KX2 T.opq) (fun A Q E s k q => wpAny_bind ((PySem.W.looks_clsIn KX2 hcl) A _ E s k (wpAny_pure q))) rfl KX2 hsup (I2.type.andThen (PySem.W.looks_subIn KX2 T.sub)) (PySem.W.ks_ne KX2 I2 hcl) (by decide +kernel) ?_
  refine PySem.W.kxs_callWith (i := "ValueError.__init__") (x := a) rfl ?_
  refine Calls.evalArgs_plain ?_
  refine Calls.spliced_cons ?_
  rw [if_neg Bool.false_ne_true]
  refine Calls.Constant_str (Calls.spliced_nil ⟨Heap.get?_push_at rfl rfl, ?_⟩)
  obtain ⟨u, hu⟩ : ∃ u, u = h2.objs.size := ⟨_, rfl⟩
  rw [← hu]
  have hsz : h1.objs.size ≤ h2.objs.size := Nat.le_of_lt (Heap.lt_size e2)
  obtain ⟨h3, hh3⟩ : ∃ h3, h3 = h2.push (PySem.W.kxs_mw "ValueError.__init__" a) := ⟨_, rfl⟩
  have kp3 : ∀ b o, h2.get? b = some o → h3.get? b = some o := fun b o e => hh3 ▸ Heap.get?_push_of_some _ e
  have eu : h3.get? u = some (PySem.W.kxs_mw "ValueError.__init__" a) := by
    rw [hh3, hu]
    exact Heap.get?_push_at rfl rfl
  have eu' : u = h2.objs.size := hu
  rw [← hh3]
  have up3 : ∀ b o, s.heap.get? b = some o → h3.get? b = some o := fun b o e => kp3 b o (kp2 b o (kp1 b o e))
  have hs1 : s.heap.objs.size < h1.objs.size := by
    obtain ⟨on, _, _, en, _⟩ := ns1
    exact Heap.lt_size en
  have alt : a < s.heap.objs.size := Heap.lt_size ho
  have ula : u ≠ a := by
    rw [hu]
    exact Nat.ne_of_gt (Nat.lt_of_lt_of_le alt (Nat.le_trans (Nat.le_of_lt hs1) hsz))
  have ulL : u ≠ s.heap.objs.size := by
    rw [hu]
    exact Nat.ne_of_gt (Nat.lt_of_lt_of_le hs1 hsz)
  have Ka : K.lookup a = none := by
    cases z : K.lookup a with
    | none => rfl
    | some o =>
      have z1 := (e0.bs a o (e0.mod.kin a o z)).2
      rw [ha] at z1
      cases z1
  have X0 : K.In (PySem.W.hideAll s.heap [a]) := fun b o e => PySem.W.hideAll_get [a] (KX b o e) fun z => by
    rw [List.mem_singleton] at z
    rw [z, Ka] at e
    cases e
  have F3 : PyProof.Rows.Fr (PySem.W.hideAll s.heap [a]) s.heap.objs.size h3 (fun x => ([("self", Value.ref a), (x_par, u1)] : List (Str × Value)).reverse.lookup x) :=
    ⟨ns1.keeps fun b o e => kp3 b o (kp2 b o e), fun b o e => up3 b o (PySem.W.of_hideAll _ e), Nat.le_of_eq (PySem.W.hideAll_size _ _)⟩
  have N3 : PyProof.Rows.News (PySem.W.hideAll s.heap [a]) s.heap.objs.size h3 [(u, PySem.W.kxs_mw "ValueError.__init__" a), (a, PySem.W.excObj C t1 none .none)] := by
    intro p hp
    rcases List.mem_cons.mp hp with rfl | hp
    · refine ⟨eu, ulL, ?_⟩
      cases z : (PySem.W.hideAll s.heap [a]).get? u with
      | none => rfl
      | some o =>
        have z1 := Heap.lt_size (PySem.W.of_hideAll [a] z)
        exact absurd z1 (Nat.not_lt.mpr (by rw [hu]; exact Nat.le_trans (Nat.le_of_lt hs1) hsz))
    · rcases List.mem_cons.mp hp with rfl | hp
      · exact ⟨up3 _ _ ho, Nat.ne_of_lt alt, PySem.W.hideAll_none [a] (List.mem_singleton.mpr rfl)⟩
      · cases hp
  refine PySem.W.kxs_call F3 X0 N3 PySem.F.excBase_ValueError T.ini (List.mem_cons_self) (.tail ula (.head fun p hp => nomatch hp)) (by show 1 ≤ sizeLine; decide) (fun t4 h4 F4 N4 _ => ?_)
  have hx4 : h4.get? a = some (PySem.W.excObj C t4 none .none) := (N4 (a, PySem.W.excObj C t4 none .none) (by simp)).1
  have up4 : ∀ b o, b ≠ a → s.heap.get? b = some o → h4.get? b = some o := fun b o n e => F4.keep b o (PySem.W.hideAll_get [a] e fun z => n (List.mem_singleton.mp z))
  have KX4 : K.In h4 := X0.keeps F4.keep
  have ns4 := F4.ns
  refine PySem.ks_wpAt_execs_cons (PySem.ks_wpAt_Assign_Attr ?_)
  refine wpAt_of_wpAny (wpAny_Name (PySem.wpAny_loadName_local rfl rfl ns4 mp ?_) (by decide))
  refine wpAny_Name (PySem.wpAny_loadName_local rfl rfl ns4 ms ?_) (by decide)
  refine PySem.W.set_plain KX4 (ox := PySem.W.excObj C t4 none .none) (od := none) ⟨hx4, rfl, rfl, trivial⟩ T.oex.sa ?_
  refine PySem.HandSPX.exc_osa KX4 hx4 hcl (show PySem.HandSPX.refsVE (.ref C :: bm) = true from hbm) rfl T.nof (fun h5 tk5 dx kp5 dn dne hx5 ns5 => ?_)
  have L4 : s.heap.objs.size < h4.objs.size := by
    obtain ⟨on, _, _, en, _⟩ := ns4
    exact Heap.lt_size en
  have hnd : H dx = none := e0.hok.fresh (Nat.le_trans (Nat.le_of_lt L4) dn)
  have up5 : ∀ b o, b ≠ a → s.heap.get? b = some o → h5.get? b = some o := fun b o n e => kp5 b o n (up4 b o n e)
  have bdx : ∀ {b o}, s.heap.get? b = some o → b ≠ dx := fun {b o} e => Nat.ne_of_lt (Nat.lt_of_lt_of_le (Heap.lt_size e) (Nat.le_trans (Nat.le_of_lt L4) dn))
  have nota : ∀ {b}, H b = none → b ≠ a := fun {b} n z => by
    rw [z, ha] at n
    cases n
  refine wpAt_of_wpAny (wpAny_execs_nil ?_)
  have un : Un (frs outer) [] H (upd (upd H dx (exd dx [(x_fld, y)])) a (exo a C (some dx))) s.heap h5 := by
    constructor
    · exact fun b o e n _ _ => up5 b o (nota n) e
    · exact fun b o e n _ _ => ⟨o.slots, up5 b o (nota n) e⟩
    · intro b o e n _
      rw [upd_ne (nota n), upd_ne (bdx e)]
      exact n
    · intro b o e _
      by_cases z : b = a
      · exact ⟨_, z ▸ hx5⟩
      · exact ⟨o, up5 b o z e⟩
    · intro b xs e
      rw [upd_ne (at_ne ha e exo_tup), upd_ne (ne_of_none e hnd)]
      exact e
    · intro b o v e
      rw [upd_ne (at_ne ha e exo_frz), upd_ne (ne_of_none e hnd)]
      exact e
    · intro b ps e
      refine ⟨#[], ?_⟩
      rw [upd_ne (at_ne ha e exo_tbl), upd_ne (ne_of_none e hnd), e]
      simp
  have ok : HOk P w (upd (upd H dx (exd dx [(x_fld, y)])) a (exo a C (some dx))) h5 := by
    intro b v e
    by_cases z : b = a
    · subst z
      rw [upd_same] at e
      obtain rfl := Option.some.inj e
      exact exo_ok hx5
    · rw [upd_ne z] at e
      by_cases z2 : b = dx
      · subst z2
        rw [upd_same] at e
        obtain rfl := Option.some.inj e
        exact exd_ok ns5 (relO_put (fs := []) r1 fun g => True.intro)
      · rw [upd_ne z2] at e
        refine (e0.hok b v e).stay (fun c o hc g => up5 c o ?_ g) (fun c hc => ?_) (fun c xs hc => ?_)
        · rcases hc with hc | hc
          · exact hc ▸ z
          · exact at_ne ha hc exo_own
        · rw [upd_ne (at_ne ha hc exo_own), upd_ne (ne_of_none hc hnd)]
          exact hc
        · rw [upd_ne (at_ne ha hc exo_tup), upd_ne (ne_of_none hc hnd)]
          exact hc
  exact ⟨.non, _, rfl, e0.bare, un, ok, rfl, q dx hnd dne⟩
end
end W2

namespace W2
open PySem PySem.Spec PyProof.Rows L2 Pg Pf LamX
theorem code_hid {h g : Heap} {c P : Addr} (z : PySem.W.CodeHd h c P) (k : ∀ ob vs, h.get? c = some ob → ob.data = .fields vs → vs[11]? = some (.ref P) → g.get? c = some ob) : PySem.W.CodeHd g c P := by
  obtain ⟨ob, vs, f1, f2, f3, f4, f5, f6, f7, z1, z2, z3, z4, rest⟩ := z
  exact ⟨ob, vs, f1, f2, f3, f4, f5, f6, f7, k ob vs z1 z3 z4, z2, z3, z4, rest⟩
/-- walkG for a law that makes lambdas: the code objects of cs have tables that are empty so far -/
theorem walkGT {l : PySem.W.OpenLaw} {n k : Nat} {q : Program} {loose : List Str} {XP : (Str → Option Value) → Heap → Prop} {YP : World → Heap → Prop} {d : DefRec} {K : Params → PySem.W.Frag} {sp : PySem.W.Frag → List (Addr × Str) → Sp} {x : Str}
    (most : l.most = some n) (fits : n ≤ sizeLine) (plain : d.params.defaults = []) (room : Room k callerA) (free : callerA.guards = some []) (inY : ∀ (w : World) (h : Heap), YP w h → (K w.params).In h)
    (F : ∀ (w : World) (mg : Str → Option Value) (fa : Addr) (h : Heap), (K w.params).In h → h.Ns mainGlobals mg → mg d.name = some (.ref fa) → ∃ (fd : FuncData) (cs : List (Addr × Addr)) (T : List (Addr × Str)),
      (∀ (s : Shared) (u : Value), BindsTo s fd ⟨[u], []⟩ [(x, u)]) ∧ (∀ p ∈ cs, (K w.params).lookup p.2 = none) ∧ (∀ p ∈ cs, ∃ y : Str, ((recsOf q).any fun r => r.name == y) = true ∧ PySem.W.tabIn (K w.params) y = some p) ∧ (∀ p ∈ T, p.1 ∈ cs.map Prod.snd) ∧
      ∀ base : Heap, (K w.params).In base → base.Ns mainGlobals mg → (∀ p ∈ cs, TabB base mg p.1 p.2) → FnG l.prog w (K w.params) mg base k fa fd [x] (sp (K w.params) T))
    (ask : ∀ (K : PySem.W.Frag) (T : List (Addr × Str)) (H : Hp) (a : Addr) (ns : List Int), ns.length ≤ n → Tabs T H → SqL K H a (ns.map V.int) → sp K T [.ref a] H (fun v _ => v = .bl true) E0) :
    PySem.W.WalkO q loose XP YP l.row.toRowW d [] (fun f vs => PySem.call f vs) := by
  refine Att.attach_call most plain fun w t0 t1 mg mb fa ob pm cd doc a us ns top Y h1 h2 h3 named obj his len nogen => ?_
  have kin := inY w _ Y
  obtain ⟨fd, cs, T, binds, noK, rec, tin, kept⟩ := F w mg fa _ kin top.T.g named
  have cod : ∀ p ∈ cs, PySem.W.CodeHd t1.heap p.1 p.2 ∧ t1.heap.get? p.2 = some { cls := .none, data := .fields #[] } := fun p hp => by
    obtain ⟨y, e1, e2⟩ := rec p hp
    have e3 : ((recsOf q).find? fun r => r.name == y).isSome = true := by rw [List.find?_isSome]; exact List.any_eq_true.mp e1
    obtain ⟨dr, e4⟩ := Option.isSome_iff_exists.mp e3
    exact PySem.W.tab_of (c := p.1) (P := p.2) top.T kin e4 e2
  have atP : ∀ b, b ∈ cs.map Prod.snd → t1.heap.get? b = some { cls := .none, data := .fields #[] } ∧ (K w.params).lookup b = none := fun b hb => by
    obtain ⟨p, hp, rfl⟩ := List.mem_map.mp hb
    exact ⟨(cod p hp).2, noK p hp⟩
  have rel := vals_ints his
  obtain ⟨S, hS⟩ : ∃ S : Obj, S = { cls := .type "list", data := .seq us.toArray } := ⟨_, rfl⟩
  rw [← hS] at obj
  have noSq : ∀ b, b ∈ cs.map Prod.snd → b ≠ a := fun b hb z => by
    have y := (atP b hb).1
    rw [z, obj, hS] at y
    have y2 : Data.seq us.toArray _ = Data.fields #[] := congrArg Obj.data (Option.some.inj y)
    exact Data.noConfusion y2
  -- tracked: the script unless it is an object that the top has written, and the tables
  obtain ⟨H, hH⟩ : ∃ H : Hp, H = fun b => if b = a ∧ (K w.params).lookup a = none then some (.frz S (.lst (ns.map V.int))) else if b ∈ cs.map Prod.snd then some (.tbl #[]) else none := ⟨_, rfl⟩
  have only : ∀ b u, H b = some u → (b = a ∧ (K w.params).lookup a = none ∧ u = .frz S (.lst (ns.map V.int))) ∨ (b ∈ cs.map Prod.snd ∧ u = .tbl #[]) := fun b u e => by
    rw [hH] at e
    by_cases c : b = a ∧ (K w.params).lookup a = none
    · exact .inl ⟨c.1, c.2, (Option.some.inj ((if_pos c).symm.trans e)).symm⟩
    · have e2 := (if_neg c).symm.trans e
      by_cases c2 : b ∈ cs.map Prod.snd
      · exact .inr ⟨c2, (Option.some.inj ((if_pos c2).symm.trans e2)).symm⟩
      · exact absurd ((if_neg c2).symm.trans e2) (by simp)
  have tbl : ∀ b, b ∈ cs.map Prod.snd → H b = some (.tbl #[]) := fun b hb => by
    rw [hH]
    exact (if_neg fun z => noSq b hb z.1).trans (if_pos hb)
  have none_of : ∀ b, (∀ u, H b ≠ some u) → H b = none := fun b z => by
    cases e : H b with
    | none => rfl
    | some u => exact absurd e (z u)
  have written : ∀ {b : Addr} {o : Obj}, (K w.params).lookup b = some o → H b = none := fun {b o} e => none_of b fun u z => by
    rcases only b u z with ⟨rfl, c, _⟩ | ⟨c, _⟩
    · rw [c] at e
      cases e
    · rw [(atP b c).2] at e
      cases e
  -- an object that is neither a list nor a bare table is not tracked
  have bare : ∀ {b : Addr} {o : Obj}, t1.heap.get? b = some o → (∀ vs z, o.data ≠ .seq vs z) → o.data ≠ .fields #[] → H b = none := fun {b o} g n1 n2 => none_of b fun u z => by
    rcases only b u z with ⟨rfl, _, _⟩ | ⟨c, _⟩
    · rw [obj] at g
      obtain rfl := Option.some.inj g
      rw [hS] at n1
      exact n1 _ _ rfl
    · rw [(atP b c).1] at g
      obtain rfl := Option.some.inj g
      exact n2 rfl
  have space : ∀ {b : Addr} {m : Str → Option Value}, t1.heap.Ns b m → (hidT t1.heap H).Ns b m := fun {b m} ⟨o, es, ep, g, dd, r⟩ =>
    ⟨o, es, ep, hidT_get g (bare g (fun vs z y => by rw [dd] at y; exact Data.noConfusion y) fun y => by rw [dd] at y; exact Data.noConfusion y), dd, r⟩
  have inH : (K w.params).In (hidT t1.heap H) := fun b o e => hidT_get (kin b o e) (written e)
  have ok : HOk l.prog w H t1.heap := fun b u z => by
    rcases only b u z with ⟨rfl, _, rfl⟩ | ⟨c, rfl⟩
    · exact ⟨obj, by rw [List.length_map]; exact Nat.le_trans len fits, us, _, rel, by rw [obj, hS]⟩
    · exact (atP b c).1
  have mod : Mod (K w.params) mg (hidT t1.heap H) := { kin := inH, glob := space top.T.g, blt := ⟨mb, space top.T.b, top.T.builtins⟩, nolimit := let ⟨mc, p1, p2⟩ := top.T.nolimit; ⟨mc, space p1, p2⟩ }
  have env : Env0 l.prog w (K w.params) mg (hidT t1.heap H) callerA [] t1 H := { frames := rfl, mod := mod, bs := fun _ _ z => of_hidT z, bsz := Nat.le_of_eq (hidT_size _ _), funs := trivial, frf := fun _ z => absurd z (by simp [frs]), hok := ok, bare := .of_eq nogen }
  have seq : SqL (K w.params) H a (ns.map V.int) := by
    cases c : (K w.params).lookup a with
    | none => exact .inl (.inr ⟨S, by rw [hH]; exact if_pos ⟨rfl, c⟩⟩)
    | some o =>
      have g := kin a o c
      rw [obj] at g
      obtain rfl := Option.some.inj g
      rw [hS] at c
      exact .inr ⟨_, us.toArray, _, c, rfl, rfl, rfl, by rw [List.size_toArray, his.length]; exact Nat.le_trans len fits, rel⟩
  have TB : ∀ p ∈ cs, TabB (hidT t1.heap H) mg p.1 p.2 := fun p hp => by
    have hP := (cod p hp).2
    have mem : p.2 ∈ cs.map Prod.snd := List.mem_map.mpr ⟨p, hp, rfl⟩
    refine { code := code_hid (cod p hp).1 fun o vs g dd at11 => hidT_get g (bare g (fun y z q => by rw [dd] at q; exact Data.noConfusion q) fun q => ?_), bm := ?_, gP := fun z => ?_ }
    · rw [dd] at q
      have q2 : vs = #[] := by injection q
      rw [q2] at at11
      cases at11
    · obtain ⟨bm, o, y1, y2, y3, y4, y5, y6⟩ := top.T.bmain
      refine ⟨bm, o, y1, y2, fun z => ?_, fun z => ?_, hidT_get y3 (bare y3 (fun vs z q => by rw [y6] at q; exact Data.noConfusion q) fun q => by rw [y6] at q; exact Data.noConfusion q), y4, y5, y6⟩
      · obtain ⟨g, es, ep, g1, g2, _⟩ := top.T.g
        rw [← z, y3] at g1
        obtain rfl := Option.some.inj g1
        rw [y6] at g2
        exact Data.noConfusion g2
      · rw [z, hP] at y3
        obtain rfl := Option.some.inj y3
        exact Data.noConfusion y6
    · obtain ⟨g, es, ep, g1, g2, _⟩ := top.T.g
      rw [z, hP] at g1
      obtain rfl := Option.some.inj g1
      exact Data.noConfusion g2
  have tabs : Tabs T H := fun p hp => TabS.nil (tbl _ (tin p hp))
  refine codeAny_mono ((kept _ inH (space top.T.g) TB).run callerA [] t1 H ⟨[.ref a], []⟩ [.ref a] [.ref a] (fun v _ => v = .bl true) E0 room free env (binds t1 (.ref a)) (.cons rfl .nil) (ask _ T H a ns len tabs seq)) fun r t2 z => ?_
  match r, z with
  | .ok (.ret u), ⟨v, H', os, bareG, un, ok', rv, ev⟩ =>
    have ev' : v = .bl true := ev
    rw [ev'] at rv
    obtain rfl : u = Value.bool true := rv
    have stays : ∀ b o, b ∉ cs.map Prod.snd → t1.heap.get? b = some o → t2.heap.get? b = some o := fun b o nb e => by
      by_cases c : ∃ y, H b = some y
      · obtain ⟨y, hy⟩ := c
        rcases only b y hy with ⟨rfl, _, rfl⟩ | ⟨c2, _⟩
        · rw [obj] at e
          rw [← Option.some.inj e]
          exact (ok' b _ (un.frzs b S _ hy)).1
        · exact absurd c2 nb
      · exact un.keep b o e (none_of b fun y hy => c ⟨y, hy⟩) (by intro z; simp [frs] at z) (by simp)
    have grows : ∀ b, b ∈ cs.map Prod.snd → ∃ add : Array Value, t2.heap.get? b = some { cls := .none, data := .fields add } := fun b hb => by
      obtain ⟨add, y⟩ := un.tbls b #[] (tbl b hb)
      exact ⟨_, ok' b _ y⟩
    refine ⟨rfl, { old := fun b o e => ?_, there := fun b o e => ?_ }, os, bareG⟩
    · by_cases hb : b ∈ cs.map Prod.snd
      · obtain ⟨add, y⟩ := grows b hb
        rw [(atP b hb).1] at e
        obtain rfl := Option.some.inj e
        obtain ⟨p, hp, rfl⟩ := List.mem_map.mp hb
        refine .inr (.inl ⟨((cod p hp).1.tab (cod p hp).2).isCodeTable, rfl, #[], add, rfl, ?_⟩)
        rw [Array.empty_append]
        exact y
      · exact .inl (stays b o hb e)
    · by_cases hb : b ∈ cs.map Prod.snd
      · obtain ⟨add, y⟩ := grows b hb
        exact ⟨_, y⟩
      · exact ⟨o, stays b o hb e⟩
end W2

set_option maxHeartbeats 4000000
namespace W2
open PySem PySem.Spec PyProof.Rows L2 Pg Pf Rul Tab LamX Pp
theorem nf_self {K : PySem.W.Frag} {C : Addr} : PySem.W.notFirst K C (.ref C) = true := by
  unfold PySem.W.notFirst
  simp
theorem uni4 {P1 P2 P3 P4 : Addr} {q1 q2 q3 q4 : Str} (nd : [P1, P2, P3, P4].Nodup) : (∀ p ∈ ([(P1, q1), (P2, q2), (P3, q3), (P4, q4)] : List (Addr × Str)), p.1 = P1 → p.2 = q1) ∧ (∀ p ∈ ([(P1, q1), (P2, q2), (P3, q3), (P4, q4)] : List (Addr × Str)), p.1 = P2 → p.2 = q2) ∧ (∀ p ∈ ([(P1, q1), (P2, q2), (P3, q3), (P4, q4)] : List (Addr × Str)), p.1 = P3 → p.2 = q3) ∧ (∀ p ∈ ([(P1, q1), (P2, q2), (P3, q3), (P4, q4)] : List (Addr × Str)), p.1 = P4 → p.2 = q4) := by
  simp only [List.nodup_cons, List.mem_cons, List.not_mem_nil, or_false, not_or] at nd
  obtain ⟨⟨n12, n13, n14⟩, ⟨n23, n24⟩, n34, _⟩ := nd
  have m : ∀ p ∈ ([(P1, q1), (P2, q2), (P3, q3), (P4, q4)] : List (Addr × Str)), p = (P1, q1) ∨ p = (P2, q2) ∨ p = (P3, q3) ∨ p = (P4, q4) := fun p hp => by simpa using hp
  refine ⟨fun p hp e => ?_, fun p hp e => ?_, fun p hp e => ?_, fun p hp e => ?_⟩ <;> rcases m p hp with rfl | rfl | rfl | rfl <;> first | rfl | (exfalso; simp only at e; first | exact n12 e | exact n12 e.symm | exact n13 e | exact n13 e.symm | exact n14 e | exact n14 e.symm | exact n23 e | exact n23 e.symm | exact n24 e | exact n24 e.symm | exact n34 e | exact n34 e.symm)
theorem sc_get_rights : FnScope ["self"] ["self"] (defScope (inClass (top 11) 5)) := ⟨rfl, rfl, rfl, by decide +kernel, rfl, by decide +kernel, by decide +kernel⟩
theorem sc_get_lefts : FnScope ["self"] ["self"] (defScope (inClass (top 11) 6)) := ⟨rfl, rfl, rfl, by decide +kernel, rfl, by decide +kernel, by decide +kernel⟩
theorem sc_get_places : FnScope ["self"] ["self"] (defScope (inClass (top 11) 7)) := ⟨rfl, rfl, rfl, by decide +kernel, rfl, by decide +kernel, by decide +kernel⟩
theorem sc_get_table : FnScope ["self"] ["self"] (defScope (inClass (top 11) 8)) := ⟨rfl, rfl, rfl, by decide +kernel, rfl, by decide +kernel, by decide +kernel⟩
/-- what the top has left, and the law kept over it -/
theorem all_mk3 {PP Q : Program} {w : World} {K : PySem.W.Frag} {h : Heap} {mg : Str → Option Value} {fa C CE f_ni f_nu f_cw f_wp f_ww f_wc f_po f_mx f_fo f_dr f_be f_so f_ne f_wa f_mu f_tu f_cd f_oe f_ls f_mr f_to f_la f_cr g_cr P_cr f_ar g_ar P_ar f_nr g_nr P_nr f_yr g_yr P_yr DC m_in m_le m_eq m_al m_aw m_cl m_mi m_ck m_se p_rights g_rights p_lefts g_lefts p_places g_places p_table g_table f_xi g_xi cc_xi dt_xi : Addr} (X : K.In h) (G : h.Ns mainGlobals mg) (hfa : mg "law" = some (.ref fa))
    {od_ni an_ni od_nu an_nu od_cw an_cw od_wp an_wp od_ww an_ww od_wc an_wc od_po an_po od_mx an_mx od_fo an_fo od_dr an_dr od_be an_be od_so an_so od_ne an_ne od_wa an_wa od_mu an_mu od_tu an_tu od_cd an_cd od_oe an_oe od_ls an_ls od_mr an_mr od_to an_to od_la an_la od_cr an_cr d_cr od_ar an_ar d_ar od_nr an_nr d_nr od_yr an_yr d_yr od_min an_min od_mle an_mle od_meq an_meq od_mal an_mal od_maw an_maw od_mcl an_mcl od_mmi an_mmi od_mck an_mck od_mse an_mse od_grights an_grights od_glefts an_glefts od_gplaces an_gplaces od_gtable an_gtable od_xi an_xi d3_xi d1_xi d2_xi : Option Addr} {sl_ni sl_nu sl_cw sl_wp sl_ww sl_wc sl_po sl_mx sl_fo sl_dr sl_be sl_so sl_ne sl_wa sl_mu sl_tu sl_cd sl_oe sl_ls sl_mr sl_to sl_la sl_cr s2_cr sl_ar s2_ar sl_nr s2_nr sl_yr s2_yr sl_min sl_mle sl_meq sl_mal sl_maw sl_mcl sl_mmi sl_mck sl_mse sl_grights sl_glefts sl_gplaces sl_gtable sl_xi s3_xi s1_xi s2_xi : Array (Option Value)} {oc_ni dc_ni pm_ni ct_ni kv_ni cd_ni oc_nu dc_nu pm_nu ct_nu kv_nu cd_nu oc_cw dc_cw pm_cw ct_cw kv_cw cd_cw oc_wp dc_wp pm_wp ct_wp kv_wp cd_wp oc_ww dc_ww pm_ww ct_ww kv_ww cd_ww oc_wc dc_wc pm_wc ct_wc kv_wc cd_wc oc_po dc_po pm_po ct_po kv_po cd_po oc_mx dc_mx pm_mx ct_mx kv_mx cd_mx oc_fo dc_fo pm_fo ct_fo kv_fo cd_fo oc_dr dc_dr pm_dr ct_dr kv_dr cd_dr oc_be dc_be pm_be ct_be kv_be cd_be oc_so dc_so pm_so ct_so kv_so cd_so oc_ne dc_ne pm_ne ct_ne kv_ne cd_ne oc_wa dc_wa pm_wa ct_wa kv_wa cd_wa oc_mu dc_mu pm_mu ct_mu kv_mu cd_mu oc_tu dc_tu pm_tu ct_tu kv_tu cd_tu oc_cd dc_cd pm_cd ct_cd kv_cd cd_cd oc_oe dc_oe pm_oe ct_oe kv_oe cd_oe oc_ls dc_ls pm_ls ct_ls kv_ls cd_ls oc_mr dc_mr pm_mr ct_mr kv_mr cd_mr oc_to dc_to pm_to ct_to kv_to cd_to oc_la dc_la pm_la ct_la kv_la cd_la oc_cr dc_cr pm_cr ct_cr kv_cr e_cr oc_ar dc_ar pm_ar ct_ar kv_ar e_ar oc_nr dc_nr pm_nr ct_nr kv_nr e_nr oc_yr dc_yr pm_yr ct_yr kv_yr e_yr oc_min dc_min pm_min ct_min kv_min cd_min oc_mle dc_mle pm_mle ct_mle kv_mle cd_mle oc_meq dc_meq pm_meq ct_meq kv_meq cd_meq oc_mal dc_mal pm_mal ct_mal kv_mal cd_mal oc_maw dc_maw pm_maw ct_maw kv_maw cd_maw oc_mcl dc_mcl pm_mcl ct_mcl cd_mcl oc_mmi dc_mmi pm_mmi ct_mmi kv_mmi cd_mmi oc_mck dc_mck pm_mck ct_mck kv_mck cd_mck oc_mse dc_mse pm_mse ct_mse kv_mse cd_mse oc_grights dc_grights pm_grights ct_grights kv_grights cd_grights oc_glefts dc_glefts pm_glefts ct_glefts kv_glefts cd_glefts oc_gplaces dc_gplaces pm_gplaces ct_gplaces kv_gplaces cd_gplaces oc_gtable dc_gtable pm_gtable ct_gtable kv_gtable cd_gtable oc_xi e3_xi kv_xi dc_xi pm_xi ct_xi e1_xi e2_xi : Value} {rr_rights rr_lefts rr_places rr_table : List Value} {t6 t12 tf_xi : Tok} {nd_xi : Nat} {file_xi : Str} {vs_cr vs_ar vs_nr vs_yr vs_xi : Array Value}
    {nmE qnE : Str} {NE : Addr} {bsE bmE : List Value} {snE : List Str} {subE : List Value} {abE : Bool} {colE : Option Bool} {ddE : Option Addr} {k0E k1E k2E k3E k5E : Option Value}
    (aC : PySem.W.nsIn K mainGlobals "Way" = some (some (.ref C)))
    (aE : PySem.W.nsIn K mainGlobals "InvalidPlaces" = some (some (.ref CE)))
    (a_ni : PySem.W.nsIn K mainGlobals "is_int" = some (some (.ref f_ni)))
    (l_ni : K.lookup f_ni = some ⟨oc_ni, od_ni, .func (PySem.W.fnOf "is_int" "is_int" (defArgs s_is_int) (defBody s_is_int) (defScope s_is_int) .none kv_ni dc_ni pm_ni an_ni cd_ni ct_ni), sl_ni⟩)
    (c_ni : PySem.W.codeIn K cd_ni "is_int" = true)
    (k_ni : PySem.W.keepIn K (.ref f_ni) = true)
    (a_nu : PySem.W.nsIn K mainGlobals "is_number" = some (some (.ref f_nu)))
    (l_nu : K.lookup f_nu = some ⟨oc_nu, od_nu, .func (PySem.W.fnOf "is_number" "is_number" (defArgs s_is_number) (defBody s_is_number) (defScope s_is_number) .none kv_nu dc_nu pm_nu an_nu cd_nu ct_nu), sl_nu⟩)
    (c_nu : PySem.W.codeIn K cd_nu "is_number" = true)
    (k_nu : PySem.W.keepIn K (.ref f_nu) = true)
    (a_cw : PySem.W.nsIn K mainGlobals "check_walker" = some (some (.ref f_cw)))
    (l_cw : K.lookup f_cw = some ⟨oc_cw, od_cw, .func (PySem.W.fnOf "check_walker" "check_walker" (defArgs s_check_walker) (defBody s_check_walker) (defScope s_check_walker) .none kv_cw dc_cw pm_cw an_cw cd_cw ct_cw), sl_cw⟩)
    (c_cw : PySem.W.codeIn K cd_cw "check_walker" = true)
    (k_cw : PySem.W.keepIn K (.ref f_cw) = true)
    (a_wp : PySem.W.nsIn K mainGlobals "wrong_part" = some (some (.ref f_wp)))
    (l_wp : K.lookup f_wp = some ⟨oc_wp, od_wp, .func (PySem.W.fnOf "wrong_part" "wrong_part" (defArgs s_wrong_part) (defBody s_wrong_part) (defScope s_wrong_part) .none kv_wp dc_wp pm_wp an_wp cd_wp ct_wp), sl_wp⟩)
    (c_wp : PySem.W.codeIn K cd_wp "wrong_part" = true)
    (k_wp : PySem.W.keepIn K (.ref f_wp) = true)
    (a_ww : PySem.W.nsIn K mainGlobals "way_with" = some (some (.ref f_ww)))
    (l_ww : K.lookup f_ww = some ⟨oc_ww, od_ww, .func (PySem.W.fnOf "way_with" "way_with" (defArgs s_way_with) (defBody s_way_with) (defScope s_way_with) .none kv_ww dc_ww pm_ww an_ww cd_ww ct_ww), sl_ww⟩)
    (c_ww : PySem.W.codeIn K cd_ww "way_with" = true)
    (k_ww : PySem.W.keepIn K (.ref f_ww) = true)
    (a_wc : PySem.W.nsIn K mainGlobals "with_cell" = some (some (.ref f_wc)))
    (l_wc : K.lookup f_wc = some ⟨oc_wc, od_wc, .func (PySem.W.fnOf "with_cell" "with_cell" (defArgs s_with_cell) (defBody s_with_cell) (defScope s_with_cell) .none kv_wc dc_wc pm_wc an_wc cd_wc ct_wc), sl_wc⟩)
    (c_wc : PySem.W.codeIn K cd_wc "with_cell" = true)
    (k_wc : PySem.W.keepIn K (.ref f_wc) = true)
    (a_po : PySem.W.nsIn K mainGlobals "pairs_of" = some (some (.ref f_po)))
    (l_po : K.lookup f_po = some ⟨oc_po, od_po, .func (PySem.W.fnOf "pairs_of" "pairs_of" (defArgs s_pairs_of) (defBody s_pairs_of) (defScope s_pairs_of) .none kv_po dc_po pm_po an_po cd_po ct_po), sl_po⟩)
    (c_po : PySem.W.codeIn K cd_po "pairs_of" = true)
    (k_po : PySem.W.keepIn K (.ref f_po) = true)
    (a_mx : PySem.W.nsIn K mainGlobals "_law_mixed" = some (some (.ref f_mx)))
    (l_mx : K.lookup f_mx = some ⟨oc_mx, od_mx, .func (PySem.W.fnOf "_law_mixed" "_law_mixed" (defArgs s__law_mixed) (defBody s__law_mixed) (defScope s__law_mixed) .none kv_mx dc_mx pm_mx an_mx cd_mx ct_mx), sl_mx⟩)
    (c_mx : PySem.W.codeIn K cd_mx "_law_mixed" = true)
    (k_mx : PySem.W.keepIn K (.ref f_mx) = true)
    (a_fo : PySem.W.nsIn K mainGlobals "_law_folded" = some (some (.ref f_fo)))
    (l_fo : K.lookup f_fo = some ⟨oc_fo, od_fo, .func (PySem.W.fnOf "_law_folded" "_law_folded" (defArgs s__law_folded) (defBody s__law_folded) (defScope s__law_folded) .none kv_fo dc_fo pm_fo an_fo cd_fo ct_fo), sl_fo⟩)
    (c_fo : PySem.W.codeIn K cd_fo "_law_folded" = true)
    (k_fo : PySem.W.keepIn K (.ref f_fo) = true)
    (a_dr : PySem.W.nsIn K mainGlobals "_law_draw" = some (some (.ref f_dr)))
    (l_dr : K.lookup f_dr = some ⟨oc_dr, od_dr, .func (PySem.W.fnOf "_law_draw" "_law_draw" (defArgs s__law_draw) (defBody s__law_draw) (defScope s__law_draw) .none kv_dr dc_dr pm_dr an_dr cd_dr ct_dr), sl_dr⟩)
    (c_dr : PySem.W.codeIn K cd_dr "_law_draw" = true)
    (k_dr : PySem.W.keepIn K (.ref f_dr) = true)
    (a_be : PySem.W.nsIn K mainGlobals "_law_begun" = some (some (.ref f_be)))
    (l_be : K.lookup f_be = some ⟨oc_be, od_be, .func (PySem.W.fnOf "_law_begun" "_law_begun" (defArgs s__law_begun) (defBody s__law_begun) (defScope s__law_begun) .none kv_be dc_be pm_be an_be cd_be ct_be), sl_be⟩)
    (c_be : PySem.W.codeIn K cd_be "_law_begun" = true)
    (k_be : PySem.W.keepIn K (.ref f_be) = true)
    (a_so : PySem.W.nsIn K mainGlobals "_law_some" = some (some (.ref f_so)))
    (l_so : K.lookup f_so = some ⟨oc_so, od_so, .func (PySem.W.fnOf "_law_some" "_law_some" (defArgs s__law_some) (defBody s__law_some) (defScope s__law_some) .none kv_so dc_so pm_so an_so cd_so ct_so), sl_so⟩)
    (c_so : PySem.W.codeIn K cd_so "_law_some" = true)
    (k_so : PySem.W.keepIn K (.ref f_so) = true)
    (a_ne : PySem.W.nsIn K mainGlobals "_law_net" = some (some (.ref f_ne)))
    (l_ne : K.lookup f_ne = some ⟨oc_ne, od_ne, .func (PySem.W.fnOf "_law_net" "_law_net" (defArgs s__law_net) (defBody s__law_net) (defScope s__law_net) .none kv_ne dc_ne pm_ne an_ne cd_ne ct_ne), sl_ne⟩)
    (c_ne : PySem.W.codeIn K cd_ne "_law_net" = true)
    (k_ne : PySem.W.keepIn K (.ref f_ne) = true)
    (a_wa : PySem.W.nsIn K mainGlobals "_law_way" = some (some (.ref f_wa)))
    (l_wa : K.lookup f_wa = some ⟨oc_wa, od_wa, .func (PySem.W.fnOf "_law_way" "_law_way" (defArgs s__law_way) (defBody s__law_way) (defScope s__law_way) .none kv_wa dc_wa pm_wa an_wa cd_wa ct_wa), sl_wa⟩)
    (c_wa : PySem.W.codeIn K cd_wa "_law_way" = true)
    (k_wa : PySem.W.keepIn K (.ref f_wa) = true)
    (a_mu : PySem.W.nsIn K mainGlobals "_law_mixed_up" = some (some (.ref f_mu)))
    (l_mu : K.lookup f_mu = some ⟨oc_mu, od_mu, .func (PySem.W.fnOf "_law_mixed_up" "_law_mixed_up" (defArgs s__law_mixed_up) (defBody s__law_mixed_up) (defScope s__law_mixed_up) .none kv_mu dc_mu pm_mu an_mu cd_mu ct_mu), sl_mu⟩)
    (c_mu : PySem.W.codeIn K cd_mu "_law_mixed_up" = true)
    (k_mu : PySem.W.keepIn K (.ref f_mu) = true)
    (a_tu : PySem.W.nsIn K mainGlobals "_law_turned" = some (some (.ref f_tu)))
    (l_tu : K.lookup f_tu = some ⟨oc_tu, od_tu, .func (PySem.W.fnOf "_law_turned" "_law_turned" (defArgs s__law_turned) (defBody s__law_turned) (defScope s__law_turned) .none kv_tu dc_tu pm_tu an_tu cd_tu ct_tu), sl_tu⟩)
    (c_tu : PySem.W.codeIn K cd_tu "_law_turned" = true)
    (k_tu : PySem.W.keepIn K (.ref f_tu) = true)
    (a_cd : PySem.W.nsIn K mainGlobals "_law_closed" = some (some (.ref f_cd)))
    (l_cd : K.lookup f_cd = some ⟨oc_cd, od_cd, .func (PySem.W.fnOf "_law_closed" "_law_closed" (defArgs s__law_closed) (defBody s__law_closed) (defScope s__law_closed) .none kv_cd dc_cd pm_cd an_cd cd_cd ct_cd), sl_cd⟩)
    (c_cd : PySem.W.codeIn K cd_cd "_law_closed" = true)
    (k_cd : PySem.W.keepIn K (.ref f_cd) = true)
    (a_oe : PySem.W.nsIn K mainGlobals "_law_opened" = some (some (.ref f_oe)))
    (l_oe : K.lookup f_oe = some ⟨oc_oe, od_oe, .func (PySem.W.fnOf "_law_opened" "_law_opened" (defArgs s__law_opened) (defBody s__law_opened) (defScope s__law_opened) .none kv_oe dc_oe pm_oe an_oe cd_oe ct_oe), sl_oe⟩)
    (c_oe : PySem.W.codeIn K cd_oe "_law_opened" = true)
    (k_oe : PySem.W.keepIn K (.ref f_oe) = true)
    (a_ls : PySem.W.nsIn K mainGlobals "_law_less" = some (some (.ref f_ls)))
    (l_ls : K.lookup f_ls = some ⟨oc_ls, od_ls, .func (PySem.W.fnOf "_law_less" "_law_less" (defArgs s__law_less) (defBody s__law_less) (defScope s__law_less) .none kv_ls dc_ls pm_ls an_ls cd_ls ct_ls), sl_ls⟩)
    (c_ls : PySem.W.codeIn K cd_ls "_law_less" = true)
    (k_ls : PySem.W.keepIn K (.ref f_ls) = true)
    (a_mr : PySem.W.nsIn K mainGlobals "_law_mirrored_right" = some (some (.ref f_mr)))
    (l_mr : K.lookup f_mr = some ⟨oc_mr, od_mr, .func (PySem.W.fnOf "_law_mirrored_right" "_law_mirrored_right" (defArgs s__law_mirrored_right) (defBody s__law_mirrored_right) (defScope s__law_mirrored_right) .none kv_mr dc_mr pm_mr an_mr cd_mr ct_mr), sl_mr⟩)
    (c_mr : PySem.W.codeIn K cd_mr "_law_mirrored_right" = true)
    (k_mr : PySem.W.keepIn K (.ref f_mr) = true)
    (a_to : PySem.W.nsIn K mainGlobals "_law_table_of" = some (some (.ref f_to)))
    (l_to : K.lookup f_to = some ⟨oc_to, od_to, .func (PySem.W.fnOf "_law_table_of" "_law_table_of" (defArgs s__law_table_of) (defBody s__law_table_of) (defScope s__law_table_of) .none kv_to dc_to pm_to an_to cd_to ct_to), sl_to⟩)
    (c_to : PySem.W.codeIn K cd_to "_law_table_of" = true)
    (k_to : PySem.W.keepIn K (.ref f_to) = true)
    (a_la : PySem.W.nsIn K mainGlobals "law" = some (some (.ref f_la)))
    (l_la : K.lookup f_la = some ⟨oc_la, od_la, .func (PySem.W.fnOf "law" "law" (defArgs s_law) (defBody s_law) (defScope s_law) .none kv_la dc_la pm_la an_la cd_la ct_la), sl_la⟩)
    (c_la : PySem.W.codeIn K cd_la "law" = true)
    (k_la : PySem.W.keepIn K (.ref f_la) = true)
    (a_cr : PySem.W.nsIn K mainGlobals "_law_closing_right" = some (some (.ref f_cr)))
    (l_cr : K.lookup f_cr = some ⟨oc_cr, od_cr, .func (PySem.W.fnOf "_law_closing_right" "_law_closing_right" (defArgs s__law_closing_right) (defBody s__law_closing_right) (defScope s__law_closing_right) .none kv_cr dc_cr pm_cr an_cr (.ref g_cr) ct_cr), sl_cr⟩)
    (c_cr : PySem.W.codeIn K (.ref g_cr) "_law_closing_right" = true)
    (k_cr : PySem.W.keepIn K (.ref f_cr) = true)
    (g1_cr : K.lookup g_cr = some ⟨e_cr, d_cr, .fields vs_cr, s2_cr⟩)
    (g2_cr : vs_cr[11]? = some (.ref P_cr))
    (g3_cr : PySem.W.tabIn K "_law_closing_right" = some (g_cr, P_cr))
    (g4_cr : K.lookup P_cr = none)
    (g5_cr : ((recsOf Q).any fun r => r.name == ("_law_closing_right" : Str)) = true)
    (a_ar : PySem.W.nsIn K mainGlobals "_law_allowing_right" = some (some (.ref f_ar)))
    (l_ar : K.lookup f_ar = some ⟨oc_ar, od_ar, .func (PySem.W.fnOf "_law_allowing_right" "_law_allowing_right" (defArgs s__law_allowing_right) (defBody s__law_allowing_right) (defScope s__law_allowing_right) .none kv_ar dc_ar pm_ar an_ar (.ref g_ar) ct_ar), sl_ar⟩)
    (c_ar : PySem.W.codeIn K (.ref g_ar) "_law_allowing_right" = true)
    (k_ar : PySem.W.keepIn K (.ref f_ar) = true)
    (g1_ar : K.lookup g_ar = some ⟨e_ar, d_ar, .fields vs_ar, s2_ar⟩)
    (g2_ar : vs_ar[11]? = some (.ref P_ar))
    (g3_ar : PySem.W.tabIn K "_law_allowing_right" = some (g_ar, P_ar))
    (g4_ar : K.lookup P_ar = none)
    (g5_ar : ((recsOf Q).any fun r => r.name == ("_law_allowing_right" : Str)) = true)
    (a_nr : PySem.W.nsIn K mainGlobals "_law_names_right" = some (some (.ref f_nr)))
    (l_nr : K.lookup f_nr = some ⟨oc_nr, od_nr, .func (PySem.W.fnOf "_law_names_right" "_law_names_right" (defArgs s__law_names_right) (defBody s__law_names_right) (defScope s__law_names_right) .none kv_nr dc_nr pm_nr an_nr (.ref g_nr) ct_nr), sl_nr⟩)
    (c_nr : PySem.W.codeIn K (.ref g_nr) "_law_names_right" = true)
    (k_nr : PySem.W.keepIn K (.ref f_nr) = true)
    (g1_nr : K.lookup g_nr = some ⟨e_nr, d_nr, .fields vs_nr, s2_nr⟩)
    (g2_nr : vs_nr[11]? = some (.ref P_nr))
    (g3_nr : PySem.W.tabIn K "_law_names_right" = some (g_nr, P_nr))
    (g4_nr : K.lookup P_nr = none)
    (g5_nr : ((recsOf Q).any fun r => r.name == ("_law_names_right" : Str)) = true)
    (a_yr : PySem.W.nsIn K mainGlobals "_law_many_right" = some (some (.ref f_yr)))
    (l_yr : K.lookup f_yr = some ⟨oc_yr, od_yr, .func (PySem.W.fnOf "_law_many_right" "_law_many_right" (defArgs s__law_many_right) (defBody s__law_many_right) (defScope s__law_many_right) .none kv_yr dc_yr pm_yr an_yr (.ref g_yr) ct_yr), sl_yr⟩)
    (c_yr : PySem.W.codeIn K (.ref g_yr) "_law_many_right" = true)
    (k_yr : PySem.W.keepIn K (.ref f_yr) = true)
    (g1_yr : K.lookup g_yr = some ⟨e_yr, d_yr, .fields vs_yr, s2_yr⟩)
    (g2_yr : vs_yr[11]? = some (.ref P_yr))
    (g3_yr : PySem.W.tabIn K "_law_many_right" = some (g_yr, P_yr))
    (g4_yr : K.lookup P_yr = none)
    (g5_yr : ((recsOf Q).any fun r => r.name == ("_law_many_right" : Str)) = true)
    (nd : [P_cr, P_ar, P_nr, P_yr].Nodup)
    (ma_in : PySem.W.findIn K (.ref C) "__init__" = some (some (.ref m_in)))
    (mi_in : PySem.W.isFn K (.ref m_in) = true)
    (ml_in : K.lookup m_in = some ⟨oc_min, od_min, .func (PySem.W.fnOf "__init__" "Way.__init__" (defArgs s_Way_init) (defBody s_Way_init) (defScope s_Way_init) .none kv_min dc_min pm_min an_min cd_min ct_min), sl_min⟩)
    (mc_in : PySem.W.codeIn K cd_min "Way.__init__" = true)
    (mk_in : PySem.W.keepIn K (.ref m_in) = true)
    (ma_le : PySem.W.findIn K (.ref C) "__len__" = some (some (.ref m_le)))
    (mi_le : PySem.W.isFn K (.ref m_le) = true)
    (ml_le : K.lookup m_le = some ⟨oc_mle, od_mle, .func (PySem.W.fnOf "__len__" "Way.__len__" (defArgs s_len) (defBody s_len) (defScope s_len) .none kv_mle dc_mle pm_mle an_mle cd_mle ct_mle), sl_mle⟩)
    (mc_le : PySem.W.codeIn K cd_mle "Way.__len__" = true)
    (mk_le : PySem.W.keepIn K (.ref m_le) = true)
    (ma_eq : PySem.W.findIn K (.ref C) "__eq__" = some (some (.ref m_eq)))
    (mi_eq : PySem.W.isFn K (.ref m_eq) = true)
    (ml_eq : K.lookup m_eq = some ⟨oc_meq, od_meq, .func (PySem.W.fnOf "__eq__" "Way.__eq__" (defArgs s_eq) (defBody s_eq) (defScope s_eq) .none kv_meq dc_meq pm_meq an_meq cd_meq ct_meq), sl_meq⟩)
    (mc_eq : PySem.W.codeIn K cd_meq "Way.__eq__" = true)
    (mk_eq : PySem.W.keepIn K (.ref m_eq) = true)
    (ma_al : PySem.W.findIn K (.ref C) "allowed" = some (some (.ref m_al)))
    (mi_al : PySem.W.isFn K (.ref m_al) = true)
    (ml_al : K.lookup m_al = some ⟨oc_mal, od_mal, .func (PySem.W.fnOf "allowed" "Way.allowed" (defArgs s_allowed) (defBody s_allowed) (defScope s_allowed) .none kv_mal dc_mal pm_mal an_mal cd_mal ct_mal), sl_mal⟩)
    (mc_al : PySem.W.codeIn K cd_mal "Way.allowed" = true)
    (mk_al : PySem.W.keepIn K (.ref m_al) = true)
    (ma_aw : PySem.W.findIn K (.ref C) "allowing" = some (some (.ref m_aw)))
    (mi_aw : PySem.W.isFn K (.ref m_aw) = true)
    (ml_aw : K.lookup m_aw = some ⟨oc_maw, od_maw, .func (PySem.W.fnOf "allowing" "Way.allowing" (defArgs s_Way_allowing) (defBody s_Way_allowing) (defScope s_Way_allowing) .none kv_maw dc_maw pm_maw an_maw cd_maw ct_maw), sl_maw⟩)
    (mc_aw : PySem.W.codeIn K cd_maw "Way.allowing" = true)
    (mk_aw : PySem.W.keepIn K (.ref m_aw) = true)
    (ma_cl : PySem.W.findIn K (.ref C) "closing" = some (some (.ref m_cl)))
    (mi_cl : PySem.W.isFn K (.ref m_cl) = true)
    (ml_cl : K.lookup m_cl = some ⟨oc_mcl, od_mcl, .func (PySem.W.fnOf "closing" "Way.closing" (defArgs s_Way_closing) (defBody s_Way_closing) (defScope s_Way_closing) .none (.ref DC) dc_mcl pm_mcl an_mcl cd_mcl ct_mcl), sl_mcl⟩)
    (mc_cl : PySem.W.codeIn K cd_mcl "Way.closing" = true)
    (mk_cl : PySem.W.keepIn K (.ref m_cl) = true)
    (ma_mi : PySem.W.findIn K (.ref C) "mirrored" = some (some (.ref m_mi)))
    (mi_mi : PySem.W.isFn K (.ref m_mi) = true)
    (ml_mi : K.lookup m_mi = some ⟨oc_mmi, od_mmi, .func (PySem.W.fnOf "mirrored" "Way.mirrored" (defArgs s_Way_mirrored) (defBody s_Way_mirrored) (defScope s_Way_mirrored) .none kv_mmi dc_mmi pm_mmi an_mmi cd_mmi ct_mmi), sl_mmi⟩)
    (mc_mi : PySem.W.codeIn K cd_mmi "Way.mirrored" = true)
    (mk_mi : PySem.W.keepIn K (.ref m_mi) = true)
    (ma_ck : PySem.W.findIn K (.ref C) "_checked_places" = some (some (.ref m_ck)))
    (mi_ck : PySem.W.isFn K (.ref m_ck) = true)
    (ml_ck : K.lookup m_ck = some ⟨oc_mck, od_mck, .func (PySem.W.fnOf "_checked_places" "Way._checked_places" (defArgs s_checked) (defBody s_checked) (defScope s_checked) .none kv_mck dc_mck pm_mck an_mck cd_mck ct_mck), sl_mck⟩)
    (mc_ck : PySem.W.codeIn K cd_mck "Way._checked_places" = true)
    (mk_ck : PySem.W.keepIn K (.ref m_ck) = true)
    (ma_se : PySem.W.findIn K (.ref C) "_seen_places" = some (some (.ref m_se)))
    (mi_se : PySem.W.isFn K (.ref m_se) = true)
    (ml_se : K.lookup m_se = some ⟨oc_mse, od_mse, .func (PySem.W.fnOf "_seen_places" "Way._seen_places" (defArgs s_Way__seen_places) (defBody s_Way__seen_places) (defScope s_Way__seen_places) .none kv_mse dc_mse pm_mse an_mse cd_mse ct_mse), sl_mse⟩)
    (mc_se : PySem.W.codeIn K cd_mse "Way._seen_places" = true)
    (mk_se : PySem.W.keepIn K (.ref m_se) = true)
    (kwR : PySem.W.nsIn K DC "right" = some (some .none))
    (kwL : PySem.W.nsIn K DC "left" = some (some .none))
    (pa_rights : PySem.W.findIn K (.ref C) "rights" = some (some (.ref p_rights)))
    (pg_rights : PySem.W.specialIn K (.ref p_rights) "__get__" = some (some (.builtin "property.__get__")))
    (pt_rights : PySem.W.takesIn K (.ref p_rights) = some true)
    (pr_rights : PySem.W.recIn K p_rights "property" = some (.ref g_rights :: rr_rights))
    (pl_rights : K.lookup g_rights = some ⟨oc_grights, od_grights, .func (PySem.W.fnOf "rights" "Way.rights" (defArgs (inClass (top 11) 5)) (defBody (inClass (top 11) 5)) (defScope (inClass (top 11) 5)) .none kv_grights dc_grights pm_grights an_grights cd_grights ct_grights), sl_grights⟩)
    (pc_rights : PySem.W.codeIn K cd_grights "Way.rights" = true)
    (nn_rights : PySem.W.findIn K (.ref C) "_rights" = some none)
    (pa_lefts : PySem.W.findIn K (.ref C) "lefts" = some (some (.ref p_lefts)))
    (pg_lefts : PySem.W.specialIn K (.ref p_lefts) "__get__" = some (some (.builtin "property.__get__")))
    (pt_lefts : PySem.W.takesIn K (.ref p_lefts) = some true)
    (pr_lefts : PySem.W.recIn K p_lefts "property" = some (.ref g_lefts :: rr_lefts))
    (pl_lefts : K.lookup g_lefts = some ⟨oc_glefts, od_glefts, .func (PySem.W.fnOf "lefts" "Way.lefts" (defArgs (inClass (top 11) 6)) (defBody (inClass (top 11) 6)) (defScope (inClass (top 11) 6)) .none kv_glefts dc_glefts pm_glefts an_glefts cd_glefts ct_glefts), sl_glefts⟩)
    (pc_lefts : PySem.W.codeIn K cd_glefts "Way.lefts" = true)
    (nn_lefts : PySem.W.findIn K (.ref C) "_lefts" = some none)
    (pa_places : PySem.W.findIn K (.ref C) "places" = some (some (.ref p_places)))
    (pg_places : PySem.W.specialIn K (.ref p_places) "__get__" = some (some (.builtin "property.__get__")))
    (pt_places : PySem.W.takesIn K (.ref p_places) = some true)
    (pr_places : PySem.W.recIn K p_places "property" = some (.ref g_places :: rr_places))
    (pl_places : K.lookup g_places = some ⟨oc_gplaces, od_gplaces, .func (PySem.W.fnOf "places" "Way.places" (defArgs (inClass (top 11) 7)) (defBody (inClass (top 11) 7)) (defScope (inClass (top 11) 7)) .none kv_gplaces dc_gplaces pm_gplaces an_gplaces cd_gplaces ct_gplaces), sl_gplaces⟩)
    (pc_places : PySem.W.codeIn K cd_gplaces "Way.places" = true)
    (nn_places : PySem.W.findIn K (.ref C) "_places" = some none)
    (pa_table : PySem.W.findIn K (.ref C) "table" = some (some (.ref p_table)))
    (pg_table : PySem.W.specialIn K (.ref p_table) "__get__" = some (some (.builtin "property.__get__")))
    (pt_table : PySem.W.takesIn K (.ref p_table) = some true)
    (pr_table : PySem.W.recIn K p_table "property" = some (.ref g_table :: rr_table))
    (pl_table : K.lookup g_table = some ⟨oc_gtable, od_gtable, .func (PySem.W.fnOf "table" "Way.table" (defArgs (inClass (top 11) 8)) (defBody (inClass (top 11) 8)) (defScope (inClass (top 11) 8)) .none kv_gtable dc_gtable pm_gtable an_gtable cd_gtable ct_gtable), sl_gtable⟩)
    (pc_table : PySem.W.codeIn K cd_gtable "Way.table" = true)
    (nn_table : PySem.W.findIn K (.ref C) "_table" = some none)
    (x_ic : PySem.W.isClsIn K C = true)
    (x_ty : PySem.W.typeIn K (.ref C) = some (.type "type"))
    (x_pg : PySem.W.plainGet K C Str.empty = true)
    (x_hd : PySem.W.hasDictIn K C = true)
    (x_po : PySem.W.plainOver K C = true)
    (x_sa : PySem.W.findIn K (.ref C) "__setattr__" = some (some (.builtin "object.__setattr__")))
    (x_mk : PySem.W.makesIn K C = true)
    (x_kc : PySem.W.keepIn K (.ref C) = true)
    (x_ca : PySem.W.findIn K (.ref C) "__class__" = some (some (.builtin "object.__class__")))
    (x_cn : PySem.W.specialIn K (.builtin "object.__class__") "__get__" = some (some (.builtin "getset_descriptor.__get__")))
    (x_ct : PySem.W.takesIn K (.builtin "object.__class__") = some true)
    (x_cm : PySem.W.mroIn K C (.type "object") = some true)
    (x_ne : PySem.W.findIn K (.ref C) "__ne__" = some (some (.builtin "object.__ne__")))
    (v_6 : PySem.W.findCls K (.ref C) (.type "type") "MAX_WALKERS" = some (.val (.int 6 t6)))
    (v_12 : PySem.W.findCls K (.ref C) (.type "type") "MAX_PLACES" = some (.val (.int 12 t12)))
    (v_rd : PySem.W.readsIn K C (.type "type") = true)
    (v_ga : PySem.W.specialIn K (.ref C) "__getattribute__" = some (some (.builtin "type.__getattribute__")))
    (e_l : K.lookup CE = some (excClassObj nmE qnE CE NE bsE bmE true snE subE abE colE ddE k0E k1E k2E k3E k5E "ValueError.__new__"))
    (e_rf : PySem.HandSPX.refsVE bmE = true)
    (e_sa : PySem.W.findIn K (.ref CE) "__setattr__" = some (some (.builtin "object.__setattr__")))
    (e_ex : PySem.W.subIn K (.ref CE) (.type "BaseException") = some true)
    (e_ty : PySem.W.typeIn K (.ref CE) = some (.type "type"))
    (e_kc : PySem.W.keepIn K (.ref CE) = true)
    (e_sv : PySem.W.subIn K (.ref CE) (.type "ValueError") = some true)
    (e_mr : PySem.W.mroIn K CE (.ref CE) = some true)
    (e_su : PySem.W.ks_superIn K CE CE "__init__" = some (some (.builtin "ValueError.__init__")))
    (e_in : PySem.W.excInitIn K CE PySem.HandSPX.veTail "ValueError.__new__" = true)
    (e_op : PySem.W.nsIn K PySem.cStatics "thirdparty.any" = some none)
    (e_no : PySem.W.findIn K (.ref CE) x_fld = some none)
    (e_fi : PySem.W.findIn K (.ref CE) "__init__" = some (some (.ref f_xi)))
    (e_ft : PySem.W.typeIn K (.ref f_xi) = some (.type "function"))
    (e_fl : K.lookup f_xi = some ⟨oc_xi, od_xi, .func (PySem.W.ksFn "__init__" x_qual (defArgs s_xi) (defBody s_xi) (defScope s_xi) (.ref dt_xi) kv_xi dc_xi pm_xi an_xi (.ref g_xi) ct_xi cc_xi), sl_xi⟩)
    (e_dl : K.lookup dt_xi = some ⟨e3_xi, d3_xi, .seq #[Value.none] nd_xi, s3_xi⟩)
    (e_fc : PySem.W.codeIn K (.ref g_xi) x_qual = true)
    (e_gl : K.lookup g_xi = some ⟨e1_xi, d1_xi, .fields vs_xi, s1_xi⟩)
    (e_gf : vs_xi[2]? = some (.str file_xi tf_xi))
    (e_fn : ((PP.main.file : Str) == file_xi) = true)
    (e_cl : K.lookup cc_xi = some ⟨e2_xi, d2_xi, .cell (some (.ref CE)), s2_xi⟩)
    (e_tp : (PP.main.scope.names.lookup ("super" : Str)).isSome = false)
    (e_ga : PySem.W.findIn K (.ref CE) "__getattribute__" = some (some (.builtin "BaseException.__getattribute__")))
    (e_gg : PySem.W.findIn K (.ref CE) "__getattr__" = some none)
    (e_hd : PySem.W.hasDictIn K CE = true)
    (e_em : PySem.W.exmOne K (.ref CE) (.ref CE) = some true)
    (z_range : PySem.W.nsIn K mainGlobals "range" = some none)
    (z_enumerate : PySem.W.nsIn K mainGlobals "enumerate" = some none)
    (z_len : PySem.W.nsIn K mainGlobals "len" = some none)
    (z_tuple : PySem.W.nsIn K mainGlobals "tuple" = some none)
    (z_max : PySem.W.nsIn K mainGlobals "max" = some none)
    (z_min : PySem.W.nsIn K mainGlobals "min" = some none)
    (z_repr : PySem.W.nsIn K mainGlobals "repr" = some none)
    (z_zip : PySem.W.nsIn K mainGlobals "zip" = some none)
    (z_isinstance : PySem.W.nsIn K mainGlobals "isinstance" = some none)
    (z_bool : PySem.W.nsIn K mainGlobals "bool" = some none)
    (z_int : PySem.W.nsIn K mainGlobals "int" = some none)
    (z_list : PySem.W.nsIn K mainGlobals "list" = some none)
    (z_set : PySem.W.nsIn K mainGlobals "set" = some none)
    (z_sorted : PySem.W.nsIn K mainGlobals "sorted" = some none)
    (z_reversed : PySem.W.nsIn K mainGlobals "reversed" = some none)
    (z_super : PySem.W.nsIn K mainGlobals "super" = some none)
    : ∃ (fd : FuncData) (cs : List (Addr × Addr)) (T : List (Addr × Str)), (∀ (s : Shared) (v : Value), BindsTo s fd ⟨[v], []⟩ [("_law_script", v)]) ∧ (∀ p ∈ cs, K.lookup p.2 = none) ∧ (∀ p ∈ cs, ∃ y : Str, ((recsOf Q).any fun r => r.name == y) = true ∧ PySem.W.tabIn K y = some p) ∧ (∀ p ∈ T, p.1 ∈ cs.map Prod.snd) ∧
      ∀ base : Heap, K.In base → base.Ns mainGlobals mg → (∀ p ∈ cs, TabB base mg p.1 p.2) → FnG PP w K mg base 12 fa fd ["_law_script"] (spLaw K T) := by
  have e := hfa.symm.trans (PySem.W.mg_of X G a_la)
  cases e
  have mC := PySem.W.mg_of X G aC
  have mE := PySem.W.mg_of X G aE
  have B : Bt mg := ⟨PySem.W.mg_none_of X G z_range, PySem.W.mg_none_of X G z_enumerate, PySem.W.mg_none_of X G z_len, PySem.W.mg_none_of X G z_tuple, PySem.W.mg_none_of X G z_max, PySem.W.mg_none_of X G z_min, PySem.W.mg_none_of X G z_repr, PySem.W.mg_none_of X G z_zip⟩
  have B2 : Bw mg := ⟨PySem.W.mg_none_of X G z_isinstance, PySem.W.mg_none_of X G z_bool, PySem.W.mg_none_of X G z_int⟩
  have bL := PySem.W.mg_none_of X G z_list
  have bSe := PySem.W.mg_none_of X G z_set
  have bSo := PySem.W.mg_none_of X G z_sorted
  have bRe := PySem.W.mg_none_of X G z_reversed
  have cls : Cls K C := ⟨x_pg, x_hd, x_po, x_sa⟩
  have T0 : Wt K mg C := ⟨cls, nn_rights, nn_lefts, nn_places, nn_table, mC, .type "type", t6, t12, ⟨v_rd, v_ga⟩, ⟨v_6, ⟨_, rfl⟩⟩, ⟨v_12, ⟨_, rfl⟩⟩⟩
  have oex : OexC K CE := ⟨⟨_, _, _, _, _, _, _, _, _, _, _, _, _, _, _, e_l, e_rf⟩, e_sa, e_ex, e_ty, e_kc⟩
  have xf : XfC K CE := ⟨e_ga, e_gg, e_ex, e_hd⟩
  have F_ni := fun_mk (st := s_is_int) l_ni c_ni k_ni
  have b_ni := F_ni.binds (ps := ["value"]) fun _ _ _ _ _ _ us hl => match us, hl with | [_], _ => rfl
  have F_nu := fun_mk (st := s_is_number) l_nu c_nu k_nu
  have b_nu := F_nu.binds (ps := ["value", "low", "high"]) fun _ _ _ _ _ _ us hl => match us, hl with | [_, _, _], _ => rfl
  have F_cw := fun_mk (st := s_check_walker) l_cw c_cw k_cw
  have b_cw := F_cw.binds (ps := ["value", "walkers"]) fun _ _ _ _ _ _ us hl => match us, hl with | [_, _], _ => rfl
  have F_wp := fun_mk (st := s_wrong_part) l_wp c_wp k_wp
  have b_wp := F_wp.binds (ps := ["rights", "lefts", "places"]) fun _ _ _ _ _ _ us hl => match us, hl with | [_, _, _], _ => rfl
  have F_ww := fun_mk (st := s_way_with) l_ww c_ww k_ww
  have b_ww := F_ww.binds (ps := ["places", "table"]) fun _ _ _ _ _ _ us hl => match us, hl with | [_, _], _ => rfl
  have F_wc := fun_mk (st := s_with_cell) l_wc c_wc k_wc
  have b_wc := F_wc.binds (ps := ["table", "right", "left", "cell"]) fun _ _ _ _ _ _ us hl => match us, hl with | [_, _, _, _], _ => rfl
  have F_po := fun_mk (st := s_pairs_of) l_po c_po k_po
  have b_po := F_po.binds (ps := ["way"]) fun _ _ _ _ _ _ us hl => match us, hl with | [_], _ => rfl
  have F_mx := fun_mk (st := s__law_mixed) l_mx c_mx k_mx
  have b_mx := F_mx.binds (ps := ["_law_cell", "_law_n"]) fun _ _ _ _ _ _ us hl => match us, hl with | [_, _], _ => rfl
  have F_fo := fun_mk (st := s__law_folded) l_fo c_fo k_fo
  have b_fo := F_fo.binds (ps := ["_law_script"]) fun _ _ _ _ _ _ us hl => match us, hl with | [_], _ => rfl
  have F_dr := fun_mk (st := s__law_draw) l_dr c_dr k_dr
  have b_dr := F_dr.binds (ps := ["_law_m", "_law_top"]) fun _ _ _ _ _ _ us hl => match us, hl with | [_, _], _ => rfl
  have F_be := fun_mk (st := s__law_begun) l_be c_be k_be
  have b_be := F_be.binds (ps := ["_law_script"]) fun _ _ _ _ _ _ us hl => match us, hl with | [_], _ => rfl
  have F_so := fun_mk (st := s__law_some) l_so c_so k_so
  have b_so := F_so.binds (ps := ["_law_m", "_law_many", "_law_sparse"]) fun _ _ _ _ _ _ us hl => match us, hl with | [_, _, _], _ => rfl
  have F_ne := fun_mk (st := s__law_net) l_ne c_ne k_ne
  have b_ne := F_ne.binds (ps := ["_law_m", "_law_most", "_law_many"]) fun _ _ _ _ _ _ us hl => match us, hl with | [_, _, _], _ => rfl
  have F_wa := fun_mk (st := s__law_way) l_wa c_wa k_wa
  have b_wa := F_wa.binds (ps := ["_law_net_here"]) fun _ _ _ _ _ _ us hl => match us, hl with | [_], _ => rfl
  have F_mu := fun_mk (st := s__law_mixed_up) l_mu c_mu k_mu
  have b_mu := F_mu.binds (ps := ["_law_m", "_law_things"]) fun _ _ _ _ _ _ us hl => match us, hl with | [_, _], _ => rfl
  have F_tu := fun_mk (st := s__law_turned) l_tu c_tu k_tu
  have b_tu := F_tu.binds (ps := ["_law_net_here"]) fun _ _ _ _ _ _ us hl => match us, hl with | [_], _ => rfl
  have F_cd := fun_mk (st := s__law_closed) l_cd c_cd k_cd
  have b_cd := F_cd.binds (ps := ["_law_road", "_law_spots", "_law_n", "_law_k"]) fun _ _ _ _ _ _ us hl => match us, hl with | [_, _, _, _], _ => rfl
  have F_oe := fun_mk (st := s__law_opened) l_oe c_oe k_oe
  have b_oe := F_oe.binds (ps := ["_law_road", "_law_n", "_law_k", "_law_spots"]) fun _ _ _ _ _ _ us hl => match us, hl with | [_, _, _, _], _ => rfl
  have F_ls := fun_mk (st := s__law_less) l_ls c_ls k_ls
  have b_ls := F_ls.binds (ps := ["_law_net_here", "_law_spots", "_law_n", "_law_k"]) fun _ _ _ _ _ _ us hl => match us, hl with | [_, _, _, _], _ => rfl
  have F_mr := fun_mk (st := s__law_mirrored_right) l_mr c_mr k_mr
  have b_mr := F_mr.binds (ps := ["_law_net_here", "_law_road"]) fun _ _ _ _ _ _ us hl => match us, hl with | [_, _], _ => rfl
  have F_to := fun_mk (st := s__law_table_of) l_to c_to k_to
  have b_to := F_to.binds (ps := ["_law_call"]) fun _ _ _ _ _ _ us hl => match us, hl with | [_], _ => rfl
  have F_la := fun_mk (st := s_law) l_la c_la k_la
  have M_in := fun_mk (st := s_Way_init) ml_in mc_in mk_in
  have d_in := M_in.binds (ps := ["self", "rights", "lefts", "places"]) fun _ _ _ _ _ _ us hl => match us, hl with | [_, _, _, _], _ => rfl
  have M_le := fun_mk (st := s_len) ml_le mc_le mk_le
  have d_le := M_le.binds (ps := ["self"]) fun _ _ _ _ _ _ us hl => match us, hl with | [_], _ => rfl
  have M_eq := fun_mk (st := s_eq) ml_eq mc_eq mk_eq
  have d_eq := M_eq.binds (ps := ["self", "other"]) fun _ _ _ _ _ _ us hl => match us, hl with | [_, _], _ => rfl
  have M_al := fun_mk (st := s_allowed) ml_al mc_al mk_al
  have d_al := M_al.binds (ps := ["self", "right", "left"]) fun _ _ _ _ _ _ us hl => match us, hl with | [_, _, _], _ => rfl
  have M_aw := fun_mk (st := s_Way_allowing) ml_aw mc_aw mk_aw
  have M_cl := fun_mk (st := s_Way_closing) ml_cl mc_cl mk_cl
  have M_mi := fun_mk (st := s_Way_mirrored) ml_mi mc_mi mk_mi
  have d_mi := M_mi.binds (ps := ["self"]) fun _ _ _ _ _ _ us hl => match us, hl with | [_], _ => rfl
  have M_ck := fun_mk (st := s_checked) ml_ck mc_ck mk_ck
  have d_ck := M_ck.binds (ps := ["self", "values"]) fun _ _ _ _ _ _ us hl => match us, hl with | [_, _], _ => rfl
  have M_se := fun_mk (st := s_Way__seen_places) ml_se mc_se mk_se
  have d_se := M_se.binds (ps := ["self", "right", "left"]) fun _ _ _ _ _ _ us hl => match us, hl with | [_, _, _], _ => rfl
  obtain ⟨T, hT⟩ : ∃ T : List (Addr × Str), T = [(P_cr, lamQ "_law_closing_right" (defScope s__law_closing_right)), (P_ar, lamQ "_law_allowing_right" (defScope s__law_allowing_right)), (P_nr, lamQ "_law_names_right" (defScope s__law_names_right)), (P_yr, lamQ "_law_many_right" (defScope s__law_many_right))] := ⟨_, rfl⟩
  refine ⟨PySem.W.fnOf "law" "law" (defArgs s_law) (defBody s_law) (defScope s_law) .none kv_la dc_la pm_la an_la cd_la ct_la, [(g_cr, P_cr), (g_ar, P_ar), (g_nr, P_nr), (g_yr, P_yr)], T, fun s v => .of_eq rfl, fun p hp => ?_, fun p hp => ?_, fun p hp => ?_, fun base _ _ TB => ?_⟩
  · have m : p = (g_cr, P_cr) ∨ p = (g_ar, P_ar) ∨ p = (g_nr, P_nr) ∨ p = (g_yr, P_yr) := by simpa using hp
    rcases m with rfl | rfl | rfl | rfl
    · exact g4_cr
    · exact g4_ar
    · exact g4_nr
    · exact g4_yr
  · have m : p = (g_cr, P_cr) ∨ p = (g_ar, P_ar) ∨ p = (g_nr, P_nr) ∨ p = (g_yr, P_yr) := by simpa using hp
    rcases m with rfl | rfl | rfl | rfl
    · exact ⟨_, g5_cr, g3_cr⟩
    · exact ⟨_, g5_ar, g3_ar⟩
    · exact ⟨_, g5_nr, g3_nr⟩
    · exact ⟨_, g5_yr, g3_yr⟩
  · rw [hT] at hp
    have m : p = (P_cr, lamQ "_law_closing_right" (defScope s__law_closing_right)) ∨ p = (P_ar, lamQ "_law_allowing_right" (defScope s__law_allowing_right)) ∨ p = (P_nr, lamQ "_law_names_right" (defScope s__law_names_right)) ∨ p = (P_yr, lamQ "_law_many_right" (defScope s__law_many_right)) := by simpa using hp
    rcases m with rfl | rfl | rfl | rfl <;> simp
  obtain ⟨un1, un2, un3, un4⟩ := uni4 (q1 := lamQ "_law_closing_right" (defScope s__law_closing_right)) (q2 := lamQ "_law_allowing_right" (defScope s__law_allowing_right)) (q3 := lamQ "_law_names_right" (defScope s__law_names_right)) (q4 := lamQ "_law_many_right" (defScope s__law_many_right)) nd
  rw [← hT] at un1 un2 un3 un4
  let Z : Zn := ⟨T, fun n => match n with | 12 => CE | _ => C⟩
  have mem_cr : (P_cr, lamQ "_law_closing_right" (defScope s__law_closing_right)) ∈ T := by rw [hT]; exact .head _
  have FT_cr : FunT K mg base Z.T "_law_closing_right" s__law_closing_right f_cr _ g_cr P_cr := ⟨⟨_, _, _, _, _, _, _, _, rfl, l_cr, c_cr⟩, k_cr, TB (g_cr, P_cr) (.head _), mem_cr, un1⟩
  have mem_ar : (P_ar, lamQ "_law_allowing_right" (defScope s__law_allowing_right)) ∈ T := by rw [hT]; exact .tail _ (.head _)
  have FT_ar : FunT K mg base Z.T "_law_allowing_right" s__law_allowing_right f_ar _ g_ar P_ar := ⟨⟨_, _, _, _, _, _, _, _, rfl, l_ar, c_ar⟩, k_ar, TB (g_ar, P_ar) (.tail _ (.head _)), mem_ar, un2⟩
  have mem_nr : (P_nr, lamQ "_law_names_right" (defScope s__law_names_right)) ∈ T := by rw [hT]; exact .tail _ (.tail _ (.head _))
  have FT_nr : FunT K mg base Z.T "_law_names_right" s__law_names_right f_nr _ g_nr P_nr := ⟨⟨_, _, _, _, _, _, _, _, rfl, l_nr, c_nr⟩, k_nr, TB (g_nr, P_nr) (.tail _ (.tail _ (.head _))), mem_nr, un3⟩
  have mem_yr : (P_yr, lamQ "_law_many_right" (defScope s__law_many_right)) ∈ T := by rw [hT]; exact .tail _ (.tail _ (.tail _ (.head _)))
  have FT_yr : FunT K mg base Z.T "_law_many_right" s__law_many_right f_yr _ g_yr P_yr := ⟨⟨_, _, _, _, _, _, _, _, rfl, l_yr, c_yr⟩, k_yr, TB (g_yr, P_yr) (.tail _ (.tail _ (.tail _ (.head _)))), mem_yr, un4⟩
  have xi : Xi PP K CE f_xi _ := ⟨oex, e_sv, e_mr, e_su, e_in, e_op, e_no, ⟨_, _, _, _, _, _, _, _, _, _, _, rfl, e_fl, e_fc, ⟨_, _, _, _, _, _, e_gl, e_gf, e_fn⟩, ⟨_, _, _, e_cl⟩⟩, e_tp⟩
  have oeP : OeD PP w K mg base Z 12 "InvalidPlaces" "value" := ⟨oex, mE, f_xi, _, _, e_fi, e_ft, ok_xi (PySem.W.mg_none_of X G z_super) xi, fun s us KX hl => match us, hl with | [u1, u2], _ => BindsTo.of_looks fun M => looks_items (its := #[Value.none]) KX e_dl rfl (.of_pure rfl)⟩
  have P_rights : Pr PP w K mg base C "rights" "_rights" := ⟨p_rights, g_rights, _, cls, ⟨pa_rights, pg_rights, pt_rights, _, pr_rights⟩, fn_getter pl_rights pc_rights sc_get_rights rfl rfl cls nn_rights, .all fun us hl => match us, hl with | [_], _ => rfl⟩
  have P_lefts : Pr PP w K mg base C "lefts" "_lefts" := ⟨p_lefts, g_lefts, _, cls, ⟨pa_lefts, pg_lefts, pt_lefts, _, pr_lefts⟩, fn_getter pl_lefts pc_lefts sc_get_lefts rfl rfl cls nn_lefts, .all fun us hl => match us, hl with | [_], _ => rfl⟩
  have P_places : Pr PP w K mg base C "places" "_places" := ⟨p_places, g_places, _, cls, ⟨pa_places, pg_places, pt_places, _, pr_places⟩, fn_getter pl_places pc_places sc_get_places rfl rfl cls nn_places, .all fun us hl => match us, hl with | [_], _ => rfl⟩
  have P_table : Pr PP w K mg base C "table" "_table" := ⟨p_table, g_table, _, cls, ⟨pa_table, pg_table, pt_table, _, pr_table⟩, fn_getter pl_table pc_table sc_get_table rfl rfl cls nn_table, .all fun us hl => match us, hl with | [_], _ => rfl⟩
  have C_ni : CalO PP w K mg base 1 "is_int" spInt := ⟨_, _, ["value"], ok_is_int B2 F_ni, PySem.W.mg_of X G a_ni, k_ni, b_ni⟩
  have C_nu : CalO PP w K mg base 2 "is_number" spNum := ⟨_, _, ["value", "low", "high"], ok_is_number C_ni F_nu, PySem.W.mg_of X G a_nu, k_nu, b_nu⟩
  have C_cw : CalO PP w K mg base 3 "check_walker" spChk := ⟨_, _, ["value", "walkers"], ok_check_walker C_nu F_cw, PySem.W.mg_of X G a_cw, k_cw, b_cw⟩
  have C_wp : CalO PP w K mg base 3 "wrong_part" spWrong := ⟨_, _, ["rights", "lefts", "places"], ok_wrong T0 C_nu F_wp, PySem.W.mg_of X G a_wp, k_wp, b_wp⟩
  have mkW : Ma PP w K mg base 4 "Way" C (spInit K C) := ⟨m_in, _, ["self", "rights", "lefts", "places"], ⟨x_mk, ma_in, mi_in, x_kc⟩, ok_init B T0 C_wp M_in, mC, d_in⟩
  have C_ww : CalO PP w K mg base 6 "way_with" (spWith K C) := ⟨_, _, ["places", "table"], ok_way_with B T0 mkW F_ww, PySem.W.mg_of X G a_ww, k_ww, b_ww⟩
  have C_wc : CalO PP w K mg base 2 "with_cell" (spCell K) := ⟨_, _, ["table", "right", "left", "cell"], ok_with_cell F_wc, PySem.W.mg_of X G a_wc, k_wc, b_wc⟩
  have C_po : CalO PP w K mg base 4 "pairs_of" (spPairs K C) := ⟨_, _, ["way"], ok_pairs B P_rights P_lefts F_po, PySem.W.mg_of X G a_po, k_po, b_po⟩
  have meA : Meth K C "allowed" m_al := ⟨ma_al, mi_al, mk_al⟩
  have okA : FnOk PP w K mg base CX0 4 m_al _ ["self", "right", "left"] (spAllowed K C) := ok_allowed T0 C_cw M_al
  have moA : Mo PP w K mg base 4 C "allowed" (spAllowed K C) := ⟨m_al, _, ["self", "right", "left"], cls, meA, okA, d_al⟩
  have moK : Mo PP w K mg base 3 C "_checked_places" (spChecked K C) := ⟨m_ck, _, ["self", "values"], cls, ⟨ma_ck, mi_ck, mk_ck⟩, ok_checked B T0 C_nu M_ck, d_ck⟩
  have clo : Clo PP w K mg base 7 C (spClosing K C) := clo_of cls ⟨ma_cl, mi_cl, mk_cl⟩ M_cl B T0 C_cw moK C_po C_wc C_ww
  have we : We PP w K mg base 2 5 C (spEqW K C) (spLenW K C) := ⟨cls, x_ca, x_cn, x_ct, x_cm, x_ne, ⟨m_eq, _, ma_eq, mi_eq, ok_eqW B2 T0 x_ca x_cn x_ct x_cm M_eq, d_eq⟩, ⟨m_le, _, ma_le, mi_le, ok_lenW B C_po M_le, d_le⟩⟩
  have tyC : ∀ {H : Hp} {a dx : Addr} {fs : List (Str × L2.V)}, H a = some (.ins (Z.cl 0) dx fs) → TyX K H (.ref a) (.ref (Z.cl 0)) := fun e => .base (.ins e cls x_ca x_cn x_ct x_cm)
  have C_mx : CalG PP w K mg base 2 "_law_mixed" spMixed := ⟨_, _, ["_law_cell", "_law_n"], ok_mixed F_mx, PySem.W.mg_of X G a_mx, k_mx, b_mx⟩
  have C_fo : CalG PP w K mg base 2 "_law_folded" (spFolded K) := ⟨_, _, ["_law_script"], ok_folded B F_fo, PySem.W.mg_of X G a_fo, k_fo, b_fo⟩
  have C_dr : CalG PP w K mg base 3 "_law_draw" spDraw := ⟨_, _, ["_law_m", "_law_top"], ok_draw B C_mx F_dr, PySem.W.mg_of X G a_dr, k_dr, b_dr⟩
  have C_be : CalG PP w K mg base 3 "_law_begun" (spBegun K) := ⟨_, _, ["_law_script"], ok_begun B C_fo F_be, PySem.W.mg_of X G a_be, k_be, b_be⟩
  have C_so : CalG PP w K mg base 4 "_law_some" spSome := ⟨_, _, ["_law_m", "_law_many", "_law_sparse"], ok_some B C_dr F_so, PySem.W.mg_of X G a_so, k_so, b_so⟩
  have C_ne : CalG PP w K mg base 5 "_law_net" (spNet K) := ⟨_, _, ["_law_m", "_law_most", "_law_many"], ok_net B C_dr C_so F_ne, PySem.W.mg_of X G a_ne, k_ne, b_ne⟩
  have C_wa : CalG PP w K mg base 8 "_law_way" (spWay K C) := ⟨_, _, ["_law_net_here"], ok_way B mkW clo F_wa, PySem.W.mg_of X G a_wa, k_wa, b_wa⟩
  have C_mu : CalG PP w K mg base 10 "_law_mixed_up" (spG K Z 2 (runS p__law_mixed_up N__law_mixed_up.length)) := ⟨_, _, ["_law_m", "_law_things"], ok__law_mixed_up B bL C_dr F_mu, PySem.W.mg_of X G a_mu, k_mu, b_mu⟩
  have C_tu : CalD PP w K mg base Z 2 "_law_turned" 1 (runS p__law_turned N__law_turned.length) := ⟨_, _, ["_law_net_here"], ok__law_turned B F_tu, PySem.W.mg_of X G a_tu, k_tu, b_tu⟩
  have cChk : CalD PP w K mg base Z 3 "check_walker" 2 (tell P_chk) := CalO.up C_cw chk_told
  have cPairs : CalD PP w K mg base Z 4 "pairs_of" 1 (tell P_pairs) := CalO.up C_po (pairs_told rfl)
  have cCell : CalD PP w K mg base Z 2 "with_cell" 4 (tell P_cell) := CalO.up C_wc cell_told
  have cWith : CalD PP w K mg base Z 6 "way_with" 2 (tell P_with) := CalO.up C_ww (with_told rfl)
  have mPlaces : MetD PP w K mg base Z 3 0 "_checked_places" 2 (tell W2.P_places) := moK.up rfl (by decide +kernel) (places_told rfl)
  have mAl : MetD PP w K mg base Z 4 0 "allowed" 3 (tell P_allow) := moA.up rfl (by decide +kernel) (allow_told rfl)
  have mClo := ok_closing (Z := Z) B cls ⟨ma_cl, mi_cl, mk_cl⟩ nn_rights nn_lefts nn_places nn_table cChk cPairs cCell cWith mPlaces oeP ml_cl mc_cl
  have mAllw := ok_allowing (Z := Z) B cls ⟨ma_aw, mi_aw, mk_aw⟩ nn_rights nn_lefts nn_places nn_table cChk cPairs cCell cWith mPlaces oeP ml_aw mc_aw
  have mSeen : MetD PP w K mg base Z 2 0 "_seen_places" 3 (runS p_Way__seen_places N_Way__seen_places.length) := ⟨⟨m_se, _, ["self", "right", "left"], ok_Way__seen_places (Z := Z) B bRe cls nn_rights nn_lefts nn_places nn_table M_se, ⟨ma_se, mi_se, mk_se⟩, d_se⟩, cls, by decide +kernel⟩
  have mMir : MetD PP w K mg base Z 7 0 "mirrored" 1 (runS p_Way_mirrored N_Way_mirrored.length) := ⟨⟨m_mi, _, ["self"], ok_Way_mirrored (Z := Z) B bRe cls nn_rights nn_lefts nn_places nn_table mSeen cWith M_mi, ⟨ma_mi, mi_mi, mk_mi⟩, d_mi⟩, cls, by decide +kernel⟩
  have C_cd : CalD PP w K mg base Z 8 "_law_closed" 4 (runS p__law_closed N__law_closed.length) := ⟨_, _, ["_law_road", "_law_spots", "_law_n", "_law_k"], ok__law_closed B mClo mAllw F_cd, PySem.W.mg_of X G a_cd, k_cd, b_cd⟩
  have C_oe : CalD PP w K mg base Z 8 "_law_opened" 4 (runS p__law_opened N__law_opened.length) := ⟨_, _, ["_law_road", "_law_n", "_law_k", "_law_spots"], ok__law_opened B mClo mAllw F_oe, PySem.W.mg_of X G a_oe, k_oe, b_oe⟩
  have C_ls : CalD PP w K mg base Z 2 "_law_less" 4 (runS p__law_less N__law_less.length) := ⟨_, _, ["_law_net_here", "_law_spots", "_law_n", "_law_k"], ok__law_less B F_ls, PySem.W.mg_of X G a_ls, k_ls, b_ls⟩
  have C_mr : CalG PP w K mg base 10 "_law_mirrored_right" (spG K Z 2 (runS p__law_mirrored_right N__law_mirrored_right.length)) := ⟨_, _, ["_law_net_here", "_law_road"], ok__law_mirrored_right B bL C_tu mMir P_rights P_lefts P_places P_table we nf_self tyC F_mr, PySem.W.mg_of X G a_mr, k_mr, b_mr⟩
  have G_cr : FnG PP w K mg base 11 f_cr _ ["_law_m", "_law_net_here", "_law_road"] (spG K Z 3 (runS p__law_closing_right N__law_closing_right.length)) := ok__law_closing_right (Z := Z) B bL C_dr C_ls C_cd C_oe P_rights P_lefts P_places P_table we nf_self tyC xf e_no mE e_em (PySem.W.mg_of X G a_to) k_to l_to c_to b_to FT_cr
  have C_cr : CalG PP w K mg base 11 "_law_closing_right" (spG K Z 3 (runS p__law_closing_right N__law_closing_right.length)) := ⟨_, _, ["_law_m", "_law_net_here", "_law_road"], G_cr, PySem.W.mg_of X G a_cr, k_cr, .all fun us hl => match us, hl with | [_, _, _], _ => rfl⟩
  have G_ar : FnG PP w K mg base 11 f_ar _ ["_law_m", "_law_net_here", "_law_road"] (spG K Z 3 (runS p__law_allowing_right N__law_allowing_right.length)) := ok__law_allowing_right (Z := Z) B bL bSe bSo C_dr C_ls C_cd C_oe P_rights P_lefts P_places P_table we nf_self tyC xf e_no mE e_em (PySem.W.mg_of X G a_to) k_to l_to c_to b_to FT_ar
  have C_ar : CalG PP w K mg base 11 "_law_allowing_right" (spG K Z 3 (runS p__law_allowing_right N__law_allowing_right.length)) := ⟨_, _, ["_law_m", "_law_net_here", "_law_road"], G_ar, PySem.W.mg_of X G a_ar, k_ar, .all fun us hl => match us, hl with | [_, _, _], _ => rfl⟩
  have G_nr : FnG PP w K mg base 11 f_nr _ ["_law_m", "_law_net_here", "_law_road"] (spG K Z 3 (runS p__law_names_right N__law_names_right.length)) := ok__law_names_right (Z := Z) B bL C_dr C_ls C_cd C_oe P_rights P_lefts P_places P_table we nf_self tyC xf e_no mE e_em (PySem.W.mg_of X G a_to) k_to l_to c_to b_to mClo mAllw kwR kwL FT_nr
  have C_nr : CalG PP w K mg base 11 "_law_names_right" (spG K Z 3 (runS p__law_names_right N__law_names_right.length)) := ⟨_, _, ["_law_m", "_law_net_here", "_law_road"], G_nr, PySem.W.mg_of X G a_nr, k_nr, .all fun us hl => match us, hl with | [_, _, _], _ => rfl⟩
  have G_yr : FnG PP w K mg base 11 f_yr _ ["_law_m"] (spG K Z 1 (runS p__law_many_right N__law_many_right.length)) := ok__law_many_right (Z := Z) B bL bSe bSo C_dr C_ls C_cd C_oe P_rights P_lefts P_places P_table we nf_self tyC xf e_no mE e_em (PySem.W.mg_of X G a_to) k_to l_to c_to b_to mClo mAllw kwR kwL mkW mAl C_mu FT_yr
  have C_yr : CalG PP w K mg base 11 "_law_many_right" (spG K Z 1 (runS p__law_many_right N__law_many_right.length)) := ⟨_, _, ["_law_m"], G_yr, PySem.W.mg_of X G a_yr, k_yr, .all fun us hl => match us, hl with | [_], _ => rfl⟩
  have cNet : CalG PP w K mg base 5 "_law_net" (spG K Z 3 (tell P_net)) := CalG.imp C_ne net_told
  have cLway : CalG PP w K mg base 8 "_law_way" (spG K Z 1 (tell P_lway)) := CalG.imp C_wa (lway_told rfl)
  exact ok_law (Z := Z) B C_be C_dr cNet cLway C_nr C_mr C_cr C_ar C_yr P_table we nf_self tyC mClo mAllw kwR kwL mkW mAl F_la
end W2

open PySem PySem.W PyProof.Rows
set_option maxHeartbeats 0 in
theorem PySem.Challenge.cw_passplaces_k03_places_changed_holds : PySem.Challenge.rw_passplaces_k03_places_changed.Holds := by
  w_on; o_law; k_head; (case hw => w_witness2)
  k_fill
  refine W2.walkGT (l := PySem.Challenge.rw_passplaces_k03_places_changed) (n := 63) (k := 12) (x := "_law_script") (sp := W2.spLaw) rfl (by decide) rfl ⟨rfl, by decide, by decide⟩ rfl (fun w h Y => PySem.W.km_in_of Y) ?F (fun K T H a ns hl hT hS => ⟨a, ns, rfl, hS, hl, hT, fun _ => rfl⟩)
  case F =>
    intro w mg fa h KX G hmg
    refine' W2.all_mk3 KX G hmg ?aC ?aE ?a_ni ?l_ni ?c_ni ?k_ni ?a_nu ?l_nu ?c_nu ?k_nu ?a_cw ?l_cw ?c_cw ?k_cw ?a_wp ?l_wp ?c_wp ?k_wp ?a_ww ?l_ww ?c_ww ?k_ww ?a_wc ?l_wc ?c_wc ?k_wc ?a_po ?l_po ?c_po ?k_po ?a_mx ?l_mx ?c_mx ?k_mx ?a_fo ?l_fo ?c_fo ?k_fo ?a_dr ?l_dr ?c_dr ?k_dr ?a_be ?l_be ?c_be ?k_be ?a_so ?l_so ?c_so ?k_so ?a_ne ?l_ne ?c_ne ?k_ne ?a_wa ?l_wa ?c_wa ?k_wa ?a_mu ?l_mu ?c_mu ?k_mu ?a_tu ?l_tu ?c_tu ?k_tu ?a_cd ?l_cd ?c_cd ?k_cd ?a_oe ?l_oe ?c_oe ?k_oe ?a_ls ?l_ls ?c_ls ?k_ls ?a_mr ?l_mr ?c_mr ?k_mr ?a_to ?l_to ?c_to ?k_to ?a_la ?l_la ?c_la ?k_la ?a_cr ?l_cr ?c_cr ?k_cr ?g1_cr ?g2_cr ?g3_cr ?g4_cr ?g5_cr ?a_ar ?l_ar ?c_ar ?k_ar ?g1_ar ?g2_ar ?g3_ar ?g4_ar ?g5_ar ?a_nr ?l_nr ?c_nr ?k_nr ?g1_nr ?g2_nr ?g3_nr ?g4_nr ?g5_nr ?a_yr ?l_yr ?c_yr ?k_yr ?g1_yr ?g2_yr ?g3_yr ?g4_yr ?g5_yr ?nd ?ma_in ?mi_in ?ml_in ?mc_in ?mk_in ?ma_le ?mi_le ?ml_le ?mc_le ?mk_le ?ma_eq ?mi_eq ?ml_eq ?mc_eq ?mk_eq ?ma_al ?mi_al ?ml_al ?mc_al ?mk_al ?ma_aw ?mi_aw ?ml_aw ?mc_aw ?mk_aw ?ma_cl ?mi_cl ?ml_cl ?mc_cl ?mk_cl ?ma_mi ?mi_mi ?ml_mi ?mc_mi ?mk_mi ?ma_ck ?mi_ck ?ml_ck ?mc_ck ?mk_ck ?ma_se ?mi_se ?ml_se ?mc_se ?mk_se ?kwR ?kwL ?pa_rights ?pg_rights ?pt_rights ?pr_rights ?pl_rights ?pc_rights ?nn_rights ?pa_lefts ?pg_lefts ?pt_lefts ?pr_lefts ?pl_lefts ?pc_lefts ?nn_lefts ?pa_places ?pg_places ?pt_places ?pr_places ?pl_places ?pc_places ?nn_places ?pa_table ?pg_table ?pt_table ?pr_table ?pl_table ?pc_table ?nn_table ?x_ic ?x_ty ?x_pg ?x_hd ?x_po ?x_sa ?x_mk ?x_kc ?x_ca ?x_cn ?x_ct ?x_cm ?x_ne ?v_6 ?v_12 ?v_rd ?v_ga ?e_l ?e_rf ?e_sa ?e_ex ?e_ty ?e_kc ?e_sv ?e_mr ?e_su ?e_in ?e_op ?e_no ?e_fi ?e_ft ?e_fl ?e_dl ?e_fc ?e_gl ?e_gf ?e_fn ?e_cl ?e_tp ?e_ga ?e_gg ?e_hd ?e_em ?z_range ?z_enumerate ?z_len ?z_tuple ?z_max ?z_min ?z_repr ?z_zip ?z_isinstance ?z_bool ?z_int ?z_list ?z_set ?z_sorted ?z_reversed ?z_super
    (case aC => k_is)
    (case aE => k_is)
    (case a_ni => k_is)
    (case l_ni => k_is)
    (case c_ni => k_is)
    (case k_ni => k_is)
    (case a_nu => k_is)
    (case l_nu => k_is)
    (case c_nu => k_is)
    (case k_nu => k_is)
    (case a_cw => k_is)
    (case l_cw => k_is)
    (case c_cw => k_is)
    (case k_cw => k_is)
    (case a_wp => k_is)
    (case l_wp => k_is)
    (case c_wp => k_is)
    (case k_wp => k_is)
    (case a_ww => k_is)
    (case l_ww => k_is)
    (case c_ww => k_is)
    (case k_ww => k_is)
    (case a_wc => k_is)
    (case l_wc => k_is)
    (case c_wc => k_is)
    (case k_wc => k_is)
    (case a_po => k_is)
    (case l_po => k_is)
    (case c_po => k_is)
    (case k_po => k_is)
    (case a_mx => k_is)
    (case l_mx => k_is)
    (case c_mx => k_is)
    (case k_mx => k_is)
    (case a_fo => k_is)
    (case l_fo => k_is)
    (case c_fo => k_is)
    (case k_fo => k_is)
    (case a_dr => k_is)
    (case l_dr => k_is)
    (case c_dr => k_is)
    (case k_dr => k_is)
    (case a_be => k_is)
    (case l_be => k_is)
    (case c_be => k_is)
    (case k_be => k_is)
    (case a_so => k_is)
    (case l_so => k_is)
    (case c_so => k_is)
    (case k_so => k_is)
    (case a_ne => k_is)
    (case l_ne => k_is)
    (case c_ne => k_is)
    (case k_ne => k_is)
    (case a_wa => k_is)
    (case l_wa => k_is)
    (case c_wa => k_is)
    (case k_wa => k_is)
    (case a_mu => k_is)
    (case l_mu => k_is)
    (case c_mu => k_is)
    (case k_mu => k_is)
    (case a_tu => k_is)
    (case l_tu => k_is)
    (case c_tu => k_is)
    (case k_tu => k_is)
    (case a_cd => k_is)
    (case l_cd => k_is)
    (case c_cd => k_is)
    (case k_cd => k_is)
    (case a_oe => k_is)
    (case l_oe => k_is)
    (case c_oe => k_is)
    (case k_oe => k_is)
    (case a_ls => k_is)
    (case l_ls => k_is)
    (case c_ls => k_is)
    (case k_ls => k_is)
    (case a_mr => k_is)
    (case l_mr => k_is)
    (case c_mr => k_is)
    (case k_mr => k_is)
    (case a_to => k_is)
    (case l_to => k_is)
    (case c_to => k_is)
    (case k_to => k_is)
    (case a_la => k_is)
    (case l_la => k_is)
    (case c_la => k_is)
    (case k_la => k_is)
    (case a_cr => k_is)
    (case l_cr => k_is)
    (case c_cr => k_is)
    (case k_cr => k_is)
    (case g1_cr => k_is)
    (case g2_cr => exact rfl)
    (case g3_cr => kernel_rfl)
    (case g4_cr => kernel_rfl)
    (case g5_cr => kernel_rfl)
    (case a_ar => k_is)
    (case l_ar => k_is)
    (case c_ar => k_is)
    (case k_ar => k_is)
    (case g1_ar => k_is)
    (case g2_ar => exact rfl)
    (case g3_ar => kernel_rfl)
    (case g4_ar => kernel_rfl)
    (case g5_ar => kernel_rfl)
    (case a_nr => k_is)
    (case l_nr => k_is)
    (case c_nr => k_is)
    (case k_nr => k_is)
    (case g1_nr => k_is)
    (case g2_nr => exact rfl)
    (case g3_nr => kernel_rfl)
    (case g4_nr => kernel_rfl)
    (case g5_nr => kernel_rfl)
    (case a_yr => k_is)
    (case l_yr => k_is)
    (case c_yr => k_is)
    (case k_yr => k_is)
    (case g1_yr => k_is)
    (case g2_yr => exact rfl)
    (case g3_yr => kernel_rfl)
    (case g4_yr => kernel_rfl)
    (case g5_yr => kernel_rfl)
    (case nd => decide)
    (case ma_in => k_is)
    (case mi_in => k_is)
    (case ml_in => k_is)
    (case mc_in => k_is)
    (case mk_in => k_is)
    (case ma_le => k_is)
    (case mi_le => k_is)
    (case ml_le => k_is)
    (case mc_le => k_is)
    (case mk_le => k_is)
    (case ma_eq => k_is)
    (case mi_eq => k_is)
    (case ml_eq => k_is)
    (case mc_eq => k_is)
    (case mk_eq => k_is)
    (case ma_al => k_is)
    (case mi_al => k_is)
    (case ml_al => k_is)
    (case mc_al => k_is)
    (case mk_al => k_is)
    (case ma_aw => k_is)
    (case mi_aw => k_is)
    (case ml_aw => k_is)
    (case mc_aw => k_is)
    (case mk_aw => k_is)
    (case ma_cl => k_is)
    (case mi_cl => k_is)
    (case ml_cl => k_is)
    (case mc_cl => k_is)
    (case mk_cl => k_is)
    (case ma_mi => k_is)
    (case mi_mi => k_is)
    (case ml_mi => k_is)
    (case mc_mi => k_is)
    (case mk_mi => k_is)
    (case ma_ck => k_is)
    (case mi_ck => k_is)
    (case ml_ck => k_is)
    (case mc_ck => k_is)
    (case mk_ck => k_is)
    (case ma_se => k_is)
    (case mi_se => k_is)
    (case ml_se => k_is)
    (case mc_se => k_is)
    (case mk_se => k_is)
    (case kwR => k_is)
    (case kwL => k_is)
    (case pa_rights => k_is)
    (case pg_rights => k_is)
    (case pt_rights => k_is)
    (case pr_rights => k_is)
    (case pl_rights => k_is)
    (case pc_rights => k_is)
    (case nn_rights => k_is)
    (case pa_lefts => k_is)
    (case pg_lefts => k_is)
    (case pt_lefts => k_is)
    (case pr_lefts => k_is)
    (case pl_lefts => k_is)
    (case pc_lefts => k_is)
    (case nn_lefts => k_is)
    (case pa_places => k_is)
    (case pg_places => k_is)
    (case pt_places => k_is)
    (case pr_places => k_is)
    (case pl_places => k_is)
    (case pc_places => k_is)
    (case nn_places => k_is)
    (case pa_table => k_is)
    (case pg_table => k_is)
    (case pt_table => k_is)
    (case pr_table => k_is)
    (case pl_table => k_is)
    (case pc_table => k_is)
    (case nn_table => k_is)
    (case x_ic => k_is)
    (case x_ty => k_is)
    (case x_pg => k_is)
    (case x_hd => k_is)
    (case x_po => k_is)
    (case x_sa => k_is)
    (case x_mk => k_is)
    (case x_kc => k_is)
    (case x_ca => k_is)
    (case x_cn => k_is)
    (case x_ct => k_is)
    (case x_cm => k_is)
    (case x_ne => k_is)
    (case v_6 => k_is)
    (case v_12 => k_is)
    (case v_rd => k_is)
    (case v_ga => k_is)
    (case e_l => k_is)
    (case e_rf => kernel_rfl)
    (case e_sa => k_is)
    (case e_ex => k_is)
    (case e_ty => k_is)
    (case e_kc => k_is)
    (case e_sv => k_is)
    (case e_mr => k_is)
    (case e_su => kernel_rfl)
    (case e_in => kernel_rfl)
    (case e_op => k_is)
    (case e_no => k_is)
    (case e_fi => k_is)
    (case e_ft => k_is)
    (case e_fl => k_is)
    (case e_dl => k_is)
    (case e_fc => k_is)
    (case e_gl => k_is)
    (case e_gf => exact rfl)
    (case e_fn => kernel_rfl)
    (case e_cl => k_is)
    (case e_tp => kernel_rfl)
    (case e_ga => k_is)
    (case e_gg => k_is)
    (case e_hd => k_is)
    (case e_em => kernel_rfl)
    (case z_range => k_is)
    (case z_enumerate => k_is)
    (case z_len => k_is)
    (case z_tuple => k_is)
    (case z_max => k_is)
    (case z_min => k_is)
    (case z_repr => k_is)
    (case z_zip => k_is)
    (case z_isinstance => k_is)
    (case z_bool => k_is)
    (case z_int => k_is)
    (case z_list => k_is)
    (case z_set => k_is)
    (case z_sorted => k_is)
    (case z_reversed => k_is)
    (case z_super => k_is)
