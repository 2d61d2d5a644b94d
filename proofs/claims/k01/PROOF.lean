import PyProof.Rows.All
import Wide.All
import OpenK.AllK
import Wide.FinOn
import PyProof.ReprRoads
import HandS.Base
import HandS.Call
import HandS.List
import HandS.Comp
import HandS.Dict
import HandS.Iter
import HandS.Ends
import HandS.Words
import HandS.Evl
import HandS.WordsList
import HandS.Conv
import HandS.Walk
import PySem.Challenge.RW_passplaces_k01_ways_checked
import HandS.IsInst
import HandS.ClsMeth
import HandS.Style
import HandS.TupMul
import HandS.TupAny
import HandS.Property
import KE.KExcSuper
import HandS.Exc
import HandS.ExcInit
import HandS.WordsExc
import HandS.ExcField
import HandS.Lambda
import PyProof.ReprLen
import HandS.MakeKwOnly
import OpenK.KOps
import PyProof.InstEq
import HandS.Rev
import PyProof.TableCode
set_option Elab.async false
set_option linter.all false
set_option maxRecDepth 100000
set_option maxHeartbeats 2000000
/-! Pg: defs that are called where nothing is being shown (guards are empty). -/
namespace Pg
open PySem PySem.Spec PyProof.Rows L2

/-- the def at f keeps its promise where no object is being shown -/
structure FnG (P : Program) (w : World) (K : PySem.W.Frag) (mg : Str → Option Value) (base : Heap) (k : Nat) (f : Addr) (fd : FuncData) (ps : List Str) (sp : Sp) : Prop where
  len : ∀ vs H Q E, sp vs H Q E → vs.length = ps.length
  run : ∀ (A : Around) (outer : List Env) (s : Shared) (H : Hp) (args : Args) (us : List Value) (vs : List V) (Q : VK) (E : XK), Room k A → A.guards = some [] → Env0 P w K mg base A outer s H → BindsTo s fd args (ps.zip us) → Vals vs us → sp vs H Q E →
    codeAny (model P w) A (.call (.ref f) args) (CR CX0 outer P w H s Q E) s

theorem gd_deeper {A : Around} {env : Env} (h : A.guards = some []) : (A.deeper env).guards = some [] := h

section
variable {P : Program} {w : World} {K : PySem.W.Frag} {mg : Str → Option Value} {base : Heap} {k : Nat} {f : Addr}
theorem fnG_of {name qual : Str} {params : Arguments} {body : List Stmt} {scope : Scope} {dV kV doc pm cdv ct oc : Value} {an od : Option Addr} {osl : Array (Option Value)} {N ps : List Str} {sp : Sp}
    (lk : K.lookup f = some ⟨oc, od, .func (PySem.W.fnOf name qual params body scope dV kV doc pm an cdv ct), osl⟩) (hcd : PySem.W.codeIn K cdv qual = true) (S : FnScope N ps scope)
    (len : ∀ vs H Q E, sp vs H Q E → vs.length = ps.length)
    (hbody : ∀ (A : Around) (outer : List Env) (s : Shared) (H : Hp) (vs : List V) (Q : VK) (E : XK), Room k (A.deeper (envOfC qual scope s.heap.objs.size f cdv)) → (A.deeper (envOfC qual scope s.heap.objs.size f cdv)).guards = some [] → sp vs H Q E →
      ∃ t, PSs (cxOf CX0 P w K mg base N qual scope f cdv A outer s H E) body t ∧ t { nx := fun _ H' => Q .non H', rt := Q } (start N vs) H) :
    FnG P w K mg base (k + 1) f (PySem.W.fnOf name qual params body scope dV kV doc pm an cdv ct) ps sp := by
  refine ⟨len, fun A outer s H args us vs Q E hr hgd e0 hb r hsp => ?_⟩
  have hl := len _ _ _ _ hsp
  have KX : K.In s.heap := e0.mod.kin.keeps fun b o e => (e0.bs b o e).1
  have lim : s.heap.NoLimit := e0.mod.nolimit.keeps fun b o e => (e0.bs b o e).1
  have hkind : ∀ y ∈ ps.zip us, scope.names.lookup y.1 = some .local ∨ (scope.names.lookup y.1 = some .cell ∧ ((cellsFrom (s.heap.objs.size + 1) scope.names []).lookup y.1).isSome = true) := fun ⟨n, v⟩ hy => by
    rcases S.par n (List.of_mem_zip hy).1 with q | q
    · exact .inl q
    · exact .inr ⟨q, PySem.W.cellsFrom_some _ _ _ (.inl q)⟩
  refine codeAny_call_function hr.depth (KX _ _ lk) rfl S.co S.gen rfl (PySem.W.codeRec_of KX hcd) (hb _ _ _ _ ?_)
  refine wpAny_newFunctionEnv_cells S.kind hkind fun env he s1 x => ?_
  subst he
  refine ⟨lim.keeps x.toInCall.keep, codeAny_func ?_⟩
  obtain ⟨t, ht, hq⟩ := hbody A outer s H vs Q E (hr.deeper _) (gd_deeper hgd) hsp
  have I : Inv (cxOf CX0 P w K mg base N qual scope f cdv A outer s H E) [] (start N vs) H s1 := inv_start S hr.hd e0 hl r x
  refine wpAny_mono (ht.run [] s1 (start N vs) H _ I hq) (fun fl s' hs => ?_) fun e s' hs => hs
  have fin : ∀ {σ' : L2.St} {H' : Hp} {v : V} {u : Value}, Inv (cxOf CX0 P w K mg base N qual scope f cdv A outer s H E) [] σ' H' s' → RelV v u → Q v H' → CE outer P w H s Q u s' :=
    fun {σ' H' v u} J rv q => ⟨v, H', J.os, J.bare, J.base, J.hok, rv, q⟩
  cases fl with
  | ret u =>
    obtain ⟨v, σ', H', J, rv, q⟩ := hs
    exact fin J rv q
  | next =>
    obtain ⟨σ', H', J, q⟩ := hs
    exact fin (v := V.non) (u := Value.none) J rfl q
  | brk =>
    obtain ⟨_, _, _, q⟩ := hs
    exact False.elim q
  | cont =>
    obtain ⟨_, _, _, q⟩ := hs
    exact False.elim q
/-- THE RULE for a def of the text -/
theorem okG {x qual : Str} {st : Stmt} {fd : FuncData} {N ps : List Str} {sp : Sp} (F : Fun K x qual st f fd) (S : FnScope N ps (defScope st)) (len : ∀ vs H Q E, sp vs H Q E → vs.length = ps.length)
    (hbody : ∀ (cdv : Value) (A : Around) (outer : List Env) (s : Shared) (H : Hp) (vs : List V) (Q : VK) (E : XK), Room k (A.deeper (envOfC qual (defScope st) s.heap.objs.size f cdv)) → (A.deeper (envOfC qual (defScope st) s.heap.objs.size f cdv)).guards = some [] → sp vs H Q E →
      ∃ t, PSs (cxOf CX0 P w K mg base N qual (defScope st) f cdv A outer s H E).nox (defBody st) t ∧ t { nx := fun _ H' => Q .non H', rt := Q } (start N vs) H) : FnG P w K mg base (k + 1) f fd ps sp := by
  obtain ⟨oc, od, kV, doc, pm, an, cdv, ct, osl, rfl, lk, hcd⟩ := F.ex
  refine fnG_of lk hcd S len fun A outer s H vs Q E hr hgd hsp => ?_
  obtain ⟨t, h, q⟩ := hbody cdv A outer s H vs Q E hr hgd hsp
  exact ⟨t, h.nox, q⟩
end
/-- a def of the module, called by its name -/
structure CalG (P : Program) (w : World) (K : PySem.W.Frag) (mg : Str → Option Value) (base : Heap) (k : Nat) (x : Str) (sp : Sp) : Prop where
  ex : ∃ (f : Addr) (fd : FuncData) (ps : List Str), FnG P w K mg base k f fd ps sp ∧ mg x = some (.ref f) ∧ PySem.W.keepIn K (.ref f) = true ∧ Binds K fd ps []
section
variable {X : Cx} {k j : Nat} {x : Str} {sp : Sp} {p pos : Pos} {e : Expr} {es : List Expr} {t : TA}
theorem run_fnG {f : Addr} {fd : FuncData} {ps : List Str} {pins : List (Addr × Obj)} {σ : L2.St} {H : Hp} {s : Shared} {Q : VK} {us : List Value} {vs : List V} (F : FnG X.prog X.w X.K X.mg X.base k f fd ps sp) (hr : Room k X.A) (hgd : X.A.guards = some []) (hb : Binds X.K fd ps [])
    (I : Inv X pins σ H s) (r : Vals vs us) (h : sp vs H Q E0) : wpAny (model X.prog X.w) X.A (call (.ref f) us) (EP X pins σ Q) X.xe s := by
  have hl : (us ++ []).length = ps.length := by rw [List.append_nil, ← r.length]; exact F.len _ _ _ _ h
  have hb' := hb s us I.kIn hl
  rw [List.append_nil] at hb'
  refine wpAny_call (codeAny_mono (F.run X.A X.stack s H ⟨us, []⟩ us vs Q E0 hr hgd I.env0 hb' r h) fun r s' hq => ?_)
  cases r with
  | error e => exact False.elim hq
  | ok fl =>
    cases fl with
    | ret u => exact I.after hq
    | next => exact False.elim hq
    | brk => exact False.elim hq
    | cont => exact False.elim hq
def tCallG (sp : Sp) (t : TA) : TE := fun σ H Q => t σ H fun vs H1 => sp vs H1 Q E0
theorem pe_cG (c : CalG X.prog X.w X.K X.mg X.base k x sp) (hr : Room j X.A) (hk : k ≤ j) (hgd : X.A.guards = some []) (hg : Gl X x) (ha : PA X (e :: es) t)
    (hdb : (x == ("__debug__" : Str)) = false := by decide) (he : starEach (e :: es) X.env = (false, eval e X.env) :: starEach es X.env := by rfl) (hpl : (backTo pos (starEach es X.env)).any (·.1) = false := by rfl) :
    PE X (.Call (.Name x p) (e :: es) [] pos) (tCallG sp t) := by
  obtain ⟨f, fd, ps, F, hm, kp, b⟩ := c.ex
  refine ⟨fun pins s σ H Q I h => ?_⟩
  refine wpAny_Call_Name_kw (ld_glob I hg hm ?_ hdb)
  refine PySem.W.callWith_K (h₀ := X.base) I.ok.mod.kin kp (thn (ha.run pos pins s σ H _ I h) fun us s1 ⟨vs, H1, I1, r, q⟩ => ⟨I1.kIn, ?_⟩) he hpl
  exact run_fnG F (hr.mono hk) hgd b I1 r q

/-- a def of the module whose promise hangs on nothing that is shown -/
structure CalO (P : Program) (w : World) (K : PySem.W.Frag) (mg : Str → Option Value) (base : Heap) (k : Nat) (x : Str) (sp : Sp) : Prop where
  ex : ∃ (f : Addr) (fd : FuncData) (ps : List Str), FnOk P w K mg base CX0 k f fd ps sp ∧ mg x = some (.ref f) ∧ PySem.W.keepIn K (.ref f) = true ∧ Binds K fd ps []
theorem pe_cO (c : CalO X.prog X.w X.K X.mg X.base k x sp) (hr : Room j X.A) (hk : k ≤ j) (hg : Gl X x) (ha : PA X (e :: es) t)
    (hdb : (x == ("__debug__" : Str)) = false := by decide) (he : starEach (e :: es) X.env = (false, eval e X.env) :: starEach es X.env := by rfl) (hpl : (backTo pos (starEach es X.env)).any (·.1) = false := by rfl) :
    PE X (.Call (.Name x p) (e :: es) [] pos) (tCallG sp t) := by
  obtain ⟨f, fd, ps, F, hm, kp, b⟩ := c.ex
  have z := pe_call (pos := pos) (p := p) F (hr.mono hk) hg hm kp b .nil pass0 ha hdb he hpl
  have et : tCall sp [] E0 t = tCallG sp t := by
    funext σ H Q
    show t σ H _ = t σ H _
    congr 1
    funext vs H1
    rw [List.append_nil]
  rw [← et]
  exact z

/-! ### repr of data -/
theorem call_reprD (hgd : X.A.guards = some []) (hu : X.A.units + 64 < cLine) :
    CallR X (.builtin "repr") (fun xs H Q => ∃ a d, xs = [.ref a] ∧ Dp X.K H (.ref a) d ∧ d.showable = true ∧ d.hasDict = false ∧ d.depth ≤ 60 ∧ d.shown.length ≤ sizeLine ∧ Q (.str d.shown) H) := by
  intro pins s σ H xs us Q I r h
  obtain ⟨a, d, rfl, hd, hs, hnd, hdp, hsz, q⟩ := h
  obtain ⟨u, rfl, ru⟩ := vals1 r
  obtain rfl : u = Value.ref a := ru
  obtain ⟨as, rd⟩ := Dp.reads I d _ _ hd rfl
  refine repr_of_reads' (h₀ := s.heap) rd hs (fun z => by rw [hnd] at z; cases z) hgd (by omega) (fun b o e => e) (fun h' u tk hk => ⟨.str d.shown, H, I.kept (t' := tk) hk, ⟨_, rfl⟩, q⟩) hsz
end
end Pg

/-! Pf: what is known for good (G) within what stands now (H). -/
namespace Pf
open PySem PySem.Spec PyProof.Rows L2 Pg

theorem upd_none_ne {H : Hp} {a b : Addr} {o : HO} (h : b ≠ a) (e : H b = none) : upd H a o b = none := by rw [upd_ne h]; exact e
theorem Same.new {H : Hp} {p : Addr} {o : HO} (h : H p = none) : Same H (upd H p o) := fun a u e => by
  rw [upd_ne (ne_of_none e h)]
  exact e
/-- from (G, H) to (G', H'): nothing that stood has changed; what G' knows anew is new -/
structure Fut (G H G' H' : Hp) : Prop where
  g : Same G G'
  h : Same H H'
  s : Same G' H'
  n : ∀ p, G' p ≠ none → G p ≠ none ∨ H p = none
/-- .. but for what stands at m and q -/
structure FutM (m q : Addr) (G H G' H' : Hp) : Prop where
  g : Same G G'
  h : ∀ p o, H p = some o → p ≠ m → p ≠ q → H' p = some o
  s : Same G' H'
  n : ∀ p, G' p ≠ none → G p ≠ none ∨ H p = none
  k : ∀ p, H' p = none → H p = none
theorem Fut.refl {G H : Hp} (s : Same G H) : Fut G H G H := ⟨Same.refl _, Same.refl _, s, fun _ h => .inl h⟩
theorem Fut.trans {G H G1 H1 G2 H2 : Hp} (a : Fut G H G1 H1) (b : Fut G1 H1 G2 H2) : Fut G H G2 H2 :=
  ⟨a.g.trans b.g, a.h.trans b.h, b.s, fun p h => (b.n p h).elim (a.n p) fun z => .inr (a.h.free z)⟩
/-- a new object, known from now on -/
theorem Fut.new {G H : Hp} {p : Addr} {o : HO} (s : Same G H) (h : H p = none) : Fut G H (upd G p o) (upd H p o) :=
  ⟨Same.new (s.free h), Same.new h, fun b u e => by
    by_cases q : b = p
    · rw [q, upd_same] at e ⊢
      exact e
    · rw [upd_ne q] at e ⊢
      exact s _ _ e, fun b e => by
    by_cases q : b = p
    · exact .inr (q ▸ h)
    · rw [upd_ne q] at e
      exact .inl e⟩
/-- H grew, G as it was -/
theorem Fut.up {G H H' : Hp} (s : Same G H) (h : Same H H') : Fut G H G H' := ⟨Same.refl _, h, s.trans h, fun _ e => .inl e⟩
theorem Fut.m {m q : Addr} {G H G' H' : Hp} (a : Fut G H G' H') : FutM m q G H G' H' := ⟨a.g, fun p o e _ _ => a.h p o e, a.s, a.n, fun p e => a.h.free e⟩
theorem FutM.trans {m q : Addr} {G H G1 H1 G2 H2 : Hp} (a : FutM m q G H G1 H1) (b : FutM m q G1 H1 G2 H2) : FutM m q G H G2 H2 :=
  ⟨a.g.trans b.g, fun p o e h1 h2 => b.h p o (a.h p o e h1 h2) h1 h2, b.s, fun p h => (b.n p h).elim (a.n p) fun z => .inr (a.k p z), fun p e => a.k p (b.k p e)⟩
theorem FutM.refl {m q : Addr} {G H : Hp} (s : Same G H) : FutM m q G H G H := (Fut.refl s).m
/-- the object at l, not known for good, changes -/
theorem Fut.mut {G H : Hp} {l : Addr} {o : HO} (s : Same G H) (hl : G l = none) : Same G (upd H l o) := fun b u e => by
  rw [upd_ne (ne_of_none e hl)]
  exact s _ _ e

mutual
theorem Dp.mono {K : PySem.W.Frag} {H H' : Hp} (e : Same H H') : ∀ (d : PyData) (v : V), Dp K H v d → Dp K H' v d
  | .none, _, h => by cases h; exact .non
  | .bool _, _, h => by cases h; exact .bl _
  | .int _, _, h => by cases h; exact .int _
  | .str _, _, h => by cases h; exact .str _
  | .list ds, _, h => by
    cases h with
    | lst a b => exact .lst (Same.seq e a) (DpAll.mono e ds _ b)
  | .tuple ds, _, h => by
    cases h with
    | tup a b => exact .tup (Evl.ex_t e a) (DpAll.mono e ds _ b)
  | .dict _, _, h => by cases h
theorem DpAll.mono {K : PySem.W.Frag} {H H' : Hp} (e : Same H H') : ∀ (ds : List PyData) (vs : List V), DpAll K H vs ds → DpAll K H' vs ds
  | [], _, h => by cases h; exact .nil
  | d :: ds, _, h => by
    cases h with
    | cons a b => exact .cons (Dp.mono e d _ a) (DpAll.mono e ds _ b)
end
theorem DpAll.ints {K : PySem.W.Frag} {H : Hp} : ∀ (ns : List Int), DpAll K H (ns.map V.int) (ns.map PyData.int)
  | [] => .nil
  | n :: ns => .cons (.int n) (DpAll.ints ns)
theorem DpAll.len {K : PySem.W.Frag} {H : Hp} : ∀ {vs : List V} {ds : List PyData}, DpAll K H vs ds → vs.length = ds.length
  | _, _, .nil => rfl
  | _, _, .cons _ b => by rw [List.length_cons, List.length_cons, DpAll.len b]
theorem DpAll.at {K : PySem.W.Frag} {H : Hp} : ∀ {vs : List V} {ds : List PyData} {i : Nat} {d : PyData}, DpAll K H vs ds → ds[i]? = some d → ∃ v, vs[i]? = some v ∧ Dp K H v d
  | _, _, 0, d, .cons a b, h => ⟨_, rfl, by
    have e := Option.some.inj h
    rw [← e]
    exact a⟩
  | _, _, i + 1, d, .cons a b, h => DpAll.at (i := i) b h
  | _, _, i, d, .nil, h => by simp at h
theorem DpAll.at' {K : PySem.W.Frag} {H : Hp} : ∀ {vs : List V} {ds : List PyData} {i : Nat} {v : V}, DpAll K H vs ds → vs[i]? = some v → ∃ d, ds[i]? = some d ∧ Dp K H v d
  | _, _, 0, d, .cons a b, h => ⟨_, rfl, by
    have e := Option.some.inj h
    rw [← e]
    exact a⟩
  | _, _, i + 1, d, .cons a b, h => DpAll.at' (i := i) b h
  | _, _, i, d, .nil, h => by simp at h
theorem DpAll.snoc {K : PySem.W.Frag} {H : Hp} : ∀ {vs : List V} {ds : List PyData} {v : V} {d : PyData}, DpAll K H vs ds → Dp K H v d → DpAll K H (vs ++ [v]) (ds ++ [d])
  | _, _, _, _, .nil, h => .cons h .nil
  | _, _, _, _, .cons a b, h => .cons a (DpAll.snoc b h)
theorem DpAll.app {K : PySem.W.Frag} {H : Hp} : ∀ {vs ws : List V} {ds es : List PyData}, DpAll K H vs ds → DpAll K H ws es → DpAll K H (vs ++ ws) (ds ++ es)
  | _, _, _, _, .nil, h => h
  | _, _, _, _, .cons a b, h => .cons a (DpAll.app b h)

/-! ### the state from which all numbers are drawn -/
abbrev kc : Key := Sum.inr ("cells" : Str)
abbrev kg : Key := Sum.inr ("great" : Str)
abbrev ks : Key := Sum.inr ("spot" : Str)
structure MAt (G H : Hp) (m c q : Addr) (b : Nat) : Prop where
  s : Same G H
  gm : G m = none
  gc : G c = none
  gq : G q = none
  ob : ∃ n : Int, H m = some (.dK [(kc, .ref c), (kg, .ref q), (ks, .int n)]) ∧ 0 ≤ n ∧ n ≤ b
  cs : ∃ cs : List Int, H c = some (.lst (cs.map V.int)) ∧ cs.length = 64
  gs : ∃ gs : List Int, H q = some (.lst (gs.map V.int)) ∧ gs.length ≤ 63
  cq : c ≠ q
theorem MAt.mono {G H : Hp} {m c q : Addr} {b b' : Nat} (M : MAt G H m c q b) (h : b ≤ b') : MAt G H m c q b' :=
  ⟨M.s, M.gm, M.gc, M.gq, let ⟨n, a, h0, h1⟩ := M.ob; ⟨n, a, h0, by omega⟩, M.cs, M.gs, M.cq⟩
theorem MAt.fut {G H G' H' : Hp} {m c q : Addr} {b : Nat} (M : MAt G H m c q b) (f : Fut G H G' H') : MAt G' H' m c q b := by
  obtain ⟨n, a, h0, h1⟩ := M.ob
  obtain ⟨cs, b1, b2⟩ := M.cs
  obtain ⟨gs, c1, c2⟩ := M.gs
  have no : ∀ p o, G p = none → H p = some o → G' p = none := fun p o e1 e2 => by
    cases e : G' p with
    | none => rfl
    | some z =>
      rcases f.n p (by rw [e]; simp) with x | x
      · exact absurd e1 x
      · rw [e2] at x
        cases x
  exact ⟨f.s, no _ _ M.gm a, no _ _ M.gc b1, no _ _ M.gq c1, ⟨n, f.h _ _ a, h0, h1⟩, ⟨cs, f.h _ _ b1, b2⟩, ⟨gs, f.h _ _ c1, c2⟩, M.cq⟩
end Pf

namespace W2
open PySem PySem.Spec PyProof.Rows L2 Pg Pf
def top (i : Nat) : Stmt := PySem.Challenge.pw_passplaces_k01_ways_checked.main.body.getD i (.Pass ⟨0, 0, 0, 0⟩)
abbrev s__law_mixed : Stmt := top 14
abbrev N__law_mixed : List Str := ["_law_cell", "_law_n", "_law_turned"]
theorem sc__law_mixed : FnScope N__law_mixed ["_law_cell", "_law_n"] (defScope s__law_mixed) := ⟨rfl, rfl, rfl, by decide +kernel, rfl, by decide +kernel, by decide +kernel⟩
abbrev s__law_folded : Stmt := top 15
abbrev N__law_folded : List Str := ["_law_script", "_law_n", "_law_found", "_law_cell"]
theorem sc__law_folded : FnScope N__law_folded ["_law_script"] (defScope s__law_folded) := ⟨rfl, rfl, rfl, by decide +kernel, rfl, by decide +kernel, by decide +kernel⟩
/-- the built-in names that the text reads -/
structure Bt (mg : Str → Option Value) : Prop where
  range : mg "range" = none
  enumerate : mg "enumerate" = none
  len : mg "len" = none
  tuple : mg "tuple" = none
  max : mg "max" = none
  min : mg "min" = none
  repr : mg "repr" = none
  zip : mg "zip" = none
section
variable {P : Program} {w : World} {K : PySem.W.Frag} {mg : Str → Option Value} {base : Heap} {f : Addr} {fd : FuncData}
def spMixed : Sp := fun vs H Q _ => ∃ c n : Int, vs = [.int c, .int n] ∧ 0 ≤ n ∧ n < 2 ^ 60 ∧ ∀ r, Q (.int r) H
theorem ok_mixed (F : Fun K "_law_mixed" "_law_mixed" s__law_mixed f fd) : FnG P w K mg base 2 f fd ["_law_cell", "_law_n"] spMixed := by
  refine okG F sc__law_mixed (fun vs H Q E h => ?_) (fun cdv A outer s H vs Q E hr hgd h => ?_)
  · obtain ⟨c, n, rfl, _⟩ := h
    rfl
  · obtain ⟨c, n, rfl, h0, h1, k⟩ := h
    have nd := sc__law_mixed.nd
    refine ⟨_, (pss_cons (ps_set (i := 2) nd rfl (Or.inl rfl) (pe_op op_add (pe_op op_add (pe_op op_mod (pe_op op_mul (pe_op op_mul (pv 0) (pe_op op_add pe_int (pe_op op_mul pe_int (pv 1)))) pe_int) pe_int) (pe_op op_mul (pe_op op_mul pe_int (pv 1)) (pv 1))) (pe_op op_mul pe_int (pv 1))))
    (pss_one (ps_ret (pe_op op_fdiv (pe_op op_mod (pe_op op_mul (pv 2) pe_int) pe_int) pe_int)))), ?_⟩
    refine ⟨_, rfl, _, rfl, _, _, rfl, rfl, .inl (by decide), _, _, rfl, rfl, _, _, rfl, rfl, .inr (by constructor <;> omega), _, _, rfl, rfl, .inr (by decide), _, _, rfl, rfl, (by show (0 : Int) < 2147483647; decide), ?_⟩
    refine ⟨_, rfl, _, _, rfl, rfl, .inl (by decide), _, rfl, _, _, rfl, rfl, .inr (by constructor <;> omega), _, _, rfl, rfl, _, rfl, _, _, rfl, rfl, .inl (by decide), _, _, rfl, rfl, ?_⟩
    refine ⟨_, rfl, _, _, rfl, rfl, .inr (by decide), _, _, rfl, rfl, (by show (0 : Int) < 2147483629; decide), _, _, rfl, rfl, ⟨by decide, by decide⟩, k _⟩
def spFolded (K : PySem.W.Frag) : Sp := fun vs H Q _ => ∃ (a : Addr) (ns : List Int), vs = [.ref a] ∧ SqL K H a (ns.map V.int) ∧ ns.length ≤ 63 ∧
  ∀ (l : Addr) (cs : List Int) (H' : Hp), H l = none → Same H H' → H' l = some (.lst (cs.map V.int)) → cs.length = 64 → Q (.ref l) H'
theorem ok_folded (T : Bt mg) (F : Fun K "_law_folded" "_law_folded" s__law_folded f fd) : FnG P w K mg base 2 f fd ["_law_script"] (spFolded K) := by
  refine okG F sc__law_folded (fun vs H Q E h => ?_) (fun cdv A outer s H vs Q E hr hgd h => ?_)
  · obtain ⟨a, ns, rfl, _⟩ := h
    rfl
  · obtain ⟨a, ns, rfl, hS, hl, k⟩ := h
    have nd := sc__law_folded.nd
    refine ⟨_, (pss_cons (ps_setLc (i := 2) (own := [("_law_n", 1)]) rfl nd rfl rfl (sw_true rfl rfl rfl (by decide +kernel)) (pi_range1 rfl T.range (pa_cons pe_int pa_nil)) (blkOk_by (N := N__law_folded) (sc := defScope s__law_folded) (by decide +kernel)) (fun _ _ _ _ _ => (pg_name (i := 1) nd rfl (Or.inl rfl))) (fun _ _ _ _ _ => pts_nil) (fun _ _ _ _ _ => (pe_op op_add pe_int (pv 1))))
    (pss_cons (ps_for PassesOwn.never rfl (pi_enum (by rfl) T.enumerate (pa_cons (pv 0) pa_nil)) (pg_tup rfl (pgs_cons (pg_name (i := 1) nd rfl (Or.inl rfl)) (pgs_cons (pg_name (i := 3) nd rfl (Or.inl rfl)) pgs_nil)))
    (pss_one (ps_asg (pe_op op_mod (pe_op op_add (pe_op op_mul (pe_ix ix_list (pv 2) (pe_op op_mod (pv 1) pe_int) (fun _ _ => rfl)) pe_int) (pv 3)) pe_int) (pg_sub (pv 2) (pe_op op_mod (pv 1) pe_int) set_list))))
    (pss_cons (ps_for PassesOwn.never rfl (pi_range2 rfl T.range (pa_cons pe_int (pa_cons pe_int pa_nil))) (pg_name (i := 1) nd rfl (Or.inl rfl))
    (pss_one (ps_asg (pe_op op_mod (pe_op op_add (pe_ix ix_list (pv 2) (pv 1) (fun _ _ => rfl)) (pe_op op_mul (pe_ix ix_list (pv 2) (pe_op op_sub (pv 1) pe_int) (fun _ _ => rfl)) pe_int)) pe_int) (pg_sub (pv 2) (pv 1) set_list))))
    (pss_one (ps_ret (pv 2)))))), ?_⟩
    refine ⟨64, rfl, by decide, by decide, fun D hD => lc_range (lo := 0) (n := 64) (fun i H2 => ∃ acc : List Int, H2 D = some (.lst (acc.map V.int)) ∧ acc.length = i ∧ Same H H2) ⟨[], upd_same, rfl, Same.new hD⟩ ?_ ?_⟩
    · rintro i H2 hi ⟨acc, hA, ha, hs⟩
      refine ⟨rfl, ?_⟩
      refine ⟨_, rfl, _, _, rfl, rfl, _, hA, small1000 (by rw [List.length_map]; omega), acc ++ [17 + (0 + (i : Int))], ?_, by rw [List.length_append, ha] <;> rfl, Fut.mut hs hD⟩
      rw [upd_same, List.map_append]
      rfl
    · rintro H2 ⟨acc, hA, ha, hs⟩
      refine ⟨_, rfl, a, ns.map V.int, rfl, hs.seq hS, for_it walk_enum (fun i σ H3 => ∃ (cs : List Int) (v1 v3 : Option V), σ = [some (.ref a), v1, some (.ref D), v3] ∧ H3 D = some (.lst (cs.map V.int)) ∧ cs.length = 64 ∧ Same H H3)
        ⟨acc, none, none, rfl, hA, ha, hs⟩ (fun i σ H3 _ ⟨_, _, _, _, _, _, s3⟩ => s3.seq hS) ?_ ?_⟩
      · rintro i x σ H3 H4 hi ⟨cs, v1, v3, rfl, hC, hc, s3⟩ ⟨T', x1, y1, rfl, hT, rfl, e1, e2⟩
        obtain rfl := Option.some.inj e1
        replace e2 : (ns.map V.int)[i]? = some y1 := e2
        rw [List.getElem?_map] at e2
        obtain ⟨z, hz, rfl⟩ : ∃ z, ns[i]? = some z ∧ y1 = V.int z := by
          cases e : ns[i]? with
          | none =>
            rw [e] at e2
            cases e2
          | some z =>
            rw [e] at e2
            exact ⟨z, rfl, (Option.some.inj e2).symm⟩
        have hD4 : (upd H3 T' (.tup [V.int (i : Nat), V.int z])) D = some (.lst (cs.map V.int)) := by
          rw [upd_ne (ne_of_none hC hT)]
          exact hC
        have hi64 : i % 64 < cs.length := by omega
        obtain ⟨c0, hc0⟩ : ∃ c0, cs[i % 64]? = some c0 := ⟨_, List.getElem?_eq_getElem hi64⟩
        refine ⟨T', _, rfl, SqT.of upd_same, rfl, _, _, rfl, _, _, rfl, rfl, ?_⟩
        refine ⟨_, rfl, _, rfl, _, _, rfl, rfl, (by show (0 : Int) < 64; decide), D, _, _, V.int c0, rfl, rfl, SqL.of hD4, at_of (j := i % 64) (by omega) (by rw [List.getElem?_map, hc0] <;> rfl), _, _, rfl, rfl, .inr (by decide), _, rfl, _, _, rfl, rfl, _, _, rfl, rfl, (by show (0 : Int) < 2147483647; decide), ?_⟩
        refine ⟨_, rfl, _, rfl, _, _, rfl, rfl, (by show (0 : Int) < 64; decide), D, _, _, i % 64, rfl, rfl, hD4, ?_, ?_⟩
        · unfold ixN
          rw [if_pos (by omega), if_pos (by rw [List.length_map]; omega)]
          exact congrArg some (by omega)
        · refine ⟨cs.set (i % 64) ((c0 * 48271 + z) % 2147483647), _, _, rfl, ?_, by rw [List.length_set]; exact hc, ?_⟩
          · rw [upd_same, List.map_set]
          · exact Fut.mut (s3.trans (Same.new hT)) hD
      · rintro σ H3 ⟨cs, v1, v3, rfl, hC, hc, s3⟩
        refine ⟨1, 64, rfl, by decide, for_range (lo := 1) (n := 63) (fun i σ H4 => ∃ (cs : List Int) (v1 v3 : Option V), σ = [some (.ref a), v1, some (.ref D), v3] ∧ H4 D = some (.lst (cs.map V.int)) ∧ cs.length = 64 ∧ Same H H4) ⟨cs, v1, v3, rfl, hC, hc, s3⟩ ?_ ?_⟩
        · rintro i σ H4 hi ⟨cs, v1, v3, rfl, hC, hc, s4⟩
          obtain ⟨c1, hc1⟩ : ∃ c1, cs[i + 1]? = some c1 := ⟨_, List.getElem?_eq_getElem (by omega)⟩
          obtain ⟨c0, hc0⟩ : ∃ c0, cs[i]? = some c0 := ⟨_, List.getElem?_eq_getElem (by omega)⟩
          refine ⟨_, rfl, _, rfl, D, _, _, V.int c1, rfl, rfl, SqL.of hC, at_of (j := i + 1) (by omega) (by rw [List.getElem?_map, hc1] <;> rfl), _, rfl, _, rfl, _, _, rfl, rfl, D, _, _, V.int c0, rfl, rfl, SqL.of hC, at_of (j := i) (by omega) (by rw [List.getElem?_map, hc0] <;> rfl),
            _, _, rfl, rfl, .inr (by decide), _, _, rfl, rfl, _, _, rfl, rfl, (by show (0 : Int) < 2147483647; decide), ?_⟩
          refine ⟨_, rfl, _, rfl, D, _, _, i + 1, rfl, rfl, hC, ?_, ?_⟩
          · unfold ixN
            rw [if_pos (by omega), if_pos (by rw [List.length_map]; omega)]
            exact congrArg some (by omega)
          · refine ⟨cs.set (i + 1) ((c1 + c0 * 16807) % 2147483647), _, _, rfl, ?_, by rw [List.length_set]; exact hc, Fut.mut s4 hD⟩
            rw [upd_same, List.map_set]
        · rintro σ H4 ⟨cs, v1, v3, rfl, hC, hc, s4⟩
          exact ⟨_, rfl, k D cs H4 hD s4 hC hc⟩
theorem kcs : ¬ kc = ks := by decide
theorem kgs : ¬ kg = ks := by decide
theorem kcg : ¬ kc = kg := by decide
theorem ksg : ¬ ks = kg := by decide
theorem val_spot (c q : Addr) (n : V) : valV ([(kc, .ref c), (kg, .ref q), (ks, n)] : List (Key × V)) ks = some n := by
  rw [valV_neg kcs, valV_neg kgs, valV_pos rfl]
theorem val_great (c q : Addr) (n : V) : valV ([(kc, .ref c), (kg, .ref q), (ks, n)] : List (Key × V)) kg = some (.ref q) := by
  rw [valV_neg kcg, valV_pos rfl]
theorem val_cells (c q : Addr) (n : V) : valV ([(kc, .ref c), (kg, .ref q), (ks, n)] : List (Key × V)) kc = some (.ref c) := by
  rw [valV_pos rfl]
theorem put_spot (c q : Addr) (n z : V) : putK ([(kc, .ref c), (kg, .ref q), (ks, n)] : List (Key × V)) ks z = [(kc, .ref c), (kg, .ref q), (ks, z)] := by
  have e : (([(kc, .ref c), (kg, .ref q), (ks, n)] : List (Key × V)).any fun kv => decide (kv.1 = ks)) = true := by
    rw [valV_any, val_spot]
    rfl
  unfold putK
  rw [if_pos e]
  simp only [List.map_cons, List.map_nil, if_neg kcs, if_neg kgs, if_pos]
theorem put_great (c q : Addr) (n z : V) : putK ([(kc, .ref c), (kg, .ref q), (ks, n)] : List (Key × V)) kg z = [(kc, .ref c), (kg, z), (ks, n)] := by
  have e : (([(kc, .ref c), (kg, .ref q), (ks, n)] : List (Key × V)).any fun kv => decide (kv.1 = kg)) = true := by
    rw [valV_any, val_great]
    rfl
  unfold putK
  rw [if_pos e]
  simp only [List.map_cons, List.map_nil, if_neg kcg, if_neg ksg, if_pos]
theorem merge_m (c q : Addr) (n : V) : mergeK [] ([(kc, .ref c), (kg, .ref q), (ks, n)] : List (Key × V)) = [(kc, .ref c), (kg, .ref q), (ks, n)] := by
  have e1 : putK ([] : List (Key × V)) kc (.ref c) = [(kc, .ref c)] := putK_new _ rfl
  have e2 : putK ([(kc, .ref c)] : List (Key × V)) kg (.ref q) = [(kc, .ref c), (kg, .ref q)] := putK_new _ (by rw [valV_neg kcg]; rfl)
  have e3 : putK ([(kc, .ref c), (kg, .ref q)] : List (Key × V)) ks n = [(kc, .ref c), (kg, .ref q), (ks, n)] := putK_new _ (by rw [valV_neg kcs, valV_neg kgs]; rfl)
  show putK (putK (putK [] kc (.ref c)) kg (.ref q)) ks n = _
  rw [e1, e2, e3]
theorem dget {H : Hp} {a : Addr} {kvs : List (Key × V)} {k : Key} {v : V} (h : H a = some (.dK kvs)) (e : valV kvs k = some v) : DGet H a (kV k) (some v) := by
  have z := DGet.k (k := k) h
  rw [e] at z
  exact z
theorem eqv_nil (gs : List Int) : PyData.eqv (.list (gs.map PyData.int)) (.list []) = gs.isEmpty := by cases gs <;> rfl
theorem lay_ints : ∀ gs : List Int, PyData.canLayAll0 (gs.map PyData.int) = true
  | [] => rfl
  | g :: gs => by
    rw [List.map_cons]
    show (true && PyData.canLayAll0 (gs.map PyData.int)) = true
    rw [lay_ints gs]
    rfl
theorem depth_ints : ∀ gs : List Int, PyData.depthAll (gs.map PyData.int) = 0
  | [] => rfl
  | g :: gs => by
    rw [List.map_cons]
    show max 0 (PyData.depthAll (gs.map PyData.int)) = 0
    rw [depth_ints gs]
    rfl
theorem shaped_ints (gs : List Int) : SeqAt.shaped (.list (gs.map PyData.int)) = true := by
  show (PyData.canLayAll0 (gs.map PyData.int) && decide (PyData.depthAll (gs.map PyData.int) + 1 ≤ 64)) = true
  rw [lay_ints, depth_ints]
  rfl
/-- draw(m, top) -/
def spDraw : Sp := fun vs H Q _ => ∃ (G : Hp) (m c q : Addr) (b : Nat) (top : Int), vs = [.ref m, .int top] ∧ MAt G H m c q b ∧ b ≤ 1000000000 ∧ 1 ≤ top ∧ top ≤ 1000 ∧
  ∀ (r : Int) (H' : Hp), 0 ≤ r → r < top → FutM m q G H G H' → MAt G H' m c q (b + 1) → Q (.int r) H'
abbrev s__law_draw : Stmt := top 16
abbrev N__law_draw : List Str := ["_law_m", "_law_top", "_law_n", "_law_at", "_law_cell"]
theorem sc__law_draw : FnScope N__law_draw ["_law_m", "_law_top"] (defScope s__law_draw) := ⟨rfl, rfl, rfl, by decide +kernel, rfl, by decide +kernel, by decide +kernel⟩
section
variable {P : Program} {w : World} {K : PySem.W.Frag} {mg : Str → Option Value} {base : Heap} {f : Addr} {fd : FuncData}
theorem ok_draw (T : Bt mg) (cM : CalG P w K mg base 2 "_law_mixed" spMixed) (F : Fun K "_law_draw" "_law_draw" s__law_draw f fd) : FnG P w K mg base 3 f fd ["_law_m", "_law_top"] spDraw := by
  refine okG F sc__law_draw (fun vs H Q E h => ?_) (fun cdv A outer s H vs Q E hr hgd h => ?_)
  · obtain ⟨G, m, c, q, b, tp, rfl, _⟩ := h
    rfl
  · obtain ⟨G, m, c, q, b, tp, rfl, M, hb, ht1, ht2, k⟩ := h
    have nd := sc__law_draw.nd
    have hu := hu_of hr
    refine ⟨_, (pss_cons (ps_set (i := 2) nd rfl (Or.inl rfl) (pe_dget hu (pv 0) pe_str (fun _ _ => rfl)))
    (pss_cons (ps_dput hu (pv 0) pe_str (pe_op op_add (pv 2) pe_int) rfl)
    (pss_cons (ps_if (pt_cmpR (op_neD hr.units) (pe_dget hu (pv 0) pe_str (fun _ _ => rfl)) (pe_lst pa_nil) (nomark _)) (pss_cons (ps_set (i := 3) nd rfl (Or.inl rfl) (pe_op op_mod (pv 2) (pe_callB call_len_seq (by rfl) T.len PySem.boot_len (pa_cons (pe_dget hu (pv 0) pe_str (fun _ _ => rfl)) pa_nil))))
    (pss_cons (ps_set (i := 4) nd rfl (Or.inl rfl) (pe_ix ix_list (pe_dget hu (pv 0) pe_str (fun _ _ => rfl)) (pv 3) (fun _ _ => rfl)))
    (pss_one (ps_if (pt_cmpR op_gt (pv 4) pe_int (nomark _)) (pss_cons (ps_asg (pe_op op_fdiv (pv 4) (pv 1)) (pg_sub (pe_dget hu (pv 0) pe_str (fun _ _ => rfl)) (pv 3) set_list))
    (pss_one (ps_ret (pe_op op_mod (pv 4) (pv 1))))) pss_nil)))) pss_nil)
    (pss_one (ps_ret (pe_op op_mod (pe_cG cM hr (by decide) hgd rfl (pa_cons (pe_cG cM hr (by decide) hgd rfl (pa_cons (pe_op op_add (pe_ix ix_list (pe_dget hu (pv 0) pe_str (fun _ _ => rfl)) (pe_op op_mod (pv 2) pe_int) (fun _ _ => rfl)) (pe_op op_mul pe_int (pe_op op_fdiv (pv 2) pe_int))) (pa_cons (pv 2) pa_nil))) (pa_cons (pe_op op_add (pv 2) pe_int) pa_nil))) (pv 1))))))), ?_⟩
    obtain ⟨n, hm, hn0, hnb⟩ := M.ob
    obtain ⟨cs, hc, hcl⟩ := M.cs
    obtain ⟨gs, hg, hgl⟩ := M.gs
    have mc : c ≠ m := (ne_of hm hc (by intro z; cases z)).symm
    have mq : q ≠ m := (ne_of hm hg (by intro z; cases z)).symm
    refine ⟨_, rfl, m, _, rfl, dget (k := ks) hm (val_spot _ _ _), ?_⟩
    refine ⟨_, rfl, _, _, rfl, rfl, _, rfl, m, _, rfl, DPut.k (k := ks) hm (small1000 (by show 3 ≤ 1000; decide)), ?_⟩
    rw [put_spot]
    have M1 : MAt G (upd H m (.dK [(kc, .ref c), (kg, .ref q), (ks, .int (n + 1))])) m c q (b + 1) :=
      ⟨Fut.mut M.s M.gm, M.gm, M.gc, M.gq, ⟨n + 1, upd_same, by omega, by omega⟩, ⟨cs, by rw [upd_ne mc]; exact hc, hcl⟩, ⟨gs, by rw [upd_ne mq]; exact hg, hgl⟩, M.cq⟩
    have hm1 : (upd H m (.dK [(kc, .ref c), (kg, .ref q), (ks, .int (n + 1))])) m = some (.dK [(kc, .ref c), (kg, .ref q), (ks, .int (n + 1))]) := upd_same
    have hg1 : (upd H m (.dK [(kc, .ref c), (kg, .ref q), (ks, .int (n + 1))])) q = some (.lst (gs.map V.int)) := by rw [upd_ne mq]; exact hg
    have hc1 : (upd H m (.dK [(kc, .ref c), (kg, .ref q), (ks, .int (n + 1))])) c = some (.lst (cs.map V.int)) := by rw [upd_ne mc]; exact hc
    have F1 : FutM m q G H G (upd H m (.dK [(kc, .ref c), (kg, .ref q), (ks, .int (n + 1))])) :=
      ⟨Same.refl _, fun p o e h1 _ => by rw [upd_ne h1]; exact e, M1.s, fun p e => .inl e, fun p e => by
        by_cases z : p = m
        · rw [z, upd_same] at e
          cases e
        · rw [upd_ne z] at e
          exact e⟩
    show tSeq _ _ _ [some (.ref m), some (.int tp), some (.int n), none, none] (upd H m (.dK [(kc, .ref c), (kg, .ref q), (ks, .int (n + 1))]))
    generalize (upd H m (.dK [(kc, .ref c), (kg, .ref q), (ks, .int (n + 1))])) = H1 at M1 hm1 hg1 hc1 F1 ⊢
    refine ⟨_, rfl, m, _, rfl, dget (k := kg) hm1 (val_great _ _ _), (by show 0 ≤ sizeLine; decide), fun p hp => ⟨_, _, .lst (SqL.of (by rw [upd_ne (ne_of_none hg1 hp)]; exact hg1)) (DpAll.ints gs), .lst (SqL.of upd_same) .nil, shaped_ints gs, rfl, _, rfl, ?_⟩⟩
    have s2 : Same H1 (upd H1 p (.lst [])) := Same.new hp
    generalize (upd H1 p (.lst [])) = H2 at s2 ⊢
    have M2 := M1.fut (Fut.up M1.s s2)
    have F2 := F1.trans (Fut.up M1.s s2).m
    have hm2 := s2 _ _ hm1
    have hg2 := s2 _ _ hg1
    have hc2 := s2 _ _ hc1
    have hi : (n % 64).toNat < cs.length := by omega
    obtain ⟨c0, hc0⟩ : ∃ c0, cs[(n % 64).toNat]? = some c0 := ⟨_, List.getElem?_eq_getElem hi⟩
    rw [eqv_nil]
    cases gs with
    | nil =>
      refine iteF ?_
      refine ⟨_, rfl, m, _, rfl, dget (k := kc) hm2 (val_cells _ _ _), _, rfl, _, _, rfl, rfl, (by show (0 : Int) < 64; decide), c, _, _, V.int c0, rfl, rfl, SqL.of hc2, at_of (j := (n % 64).toNat) (by omega) (by rw [List.getElem?_map, hc0] <;> rfl), _, rfl, _, _, rfl, rfl, ⟨by decide, by decide⟩, _, _, rfl, rfl, .inl (by decide), _, _, rfl, rfl, _, rfl,
        _, _, rfl, hn0, by omega, fun r1 => ⟨_, rfl, _, _, rfl, rfl, _, _, rfl, by omega, by omega, fun r2 => ⟨_, rfl, _, _, rfl, rfl, (by show (0 : Int) < tp; omega), ?_⟩⟩⟩
      exact k _ _ (Int.emod_nonneg _ (by omega)) (Int.emod_lt_of_pos _ (by omega)) F2 M2
    | cons g0 gr =>
      refine iteT ?_
      have hpos : (0 : Int) < ((g0 :: gr).length : Nat) := by rw [List.length_cons]; omega
      have hlt := Int.emod_lt_of_pos n hpos
      have hge := Int.emod_nonneg n (Int.ne_of_gt hpos)
      generalize hgs : g0 :: gr = gs at hpos hlt hge hg2 hgl hg
      obtain ⟨g1, hg1'⟩ : ∃ g1, gs[(n % (gs.length : Nat)).toNat]? = some g1 := ⟨_, List.getElem?_eq_getElem (by omega)⟩
      refine ⟨_, rfl, _, rfl, m, _, rfl, dget (k := kg) hm2 (val_great _ _ _), q, _, rfl, .inl (SqL.of hg2), _, _, rfl, rfl, (by rw [List.length_map]; exact hpos), ?_⟩
      refine ⟨_, rfl, m, _, rfl, dget (k := kg) hm2 (val_great _ _ _), _, rfl, q, _, _, V.int g1, rfl, rfl, SqL.of hg2, at_of (j := (n % (gs.length : Nat)).toNat) (by rw [List.length_map]; omega) (by rw [List.getElem?_map, hg1'] <;> rfl), ?_⟩
      refine ⟨_, rfl, _, _, rfl, rfl, _, rfl, ?_⟩
      by_cases hpg : 0 < g1
      · rw [decide_eq_true hpg]
        refine iteT ?_
        refine ⟨_, rfl, _, rfl, _, _, rfl, rfl, ⟨by omega, by omega⟩, _, rfl, m, _, rfl, dget (k := kg) hm2 (val_great _ _ _), _, rfl, q, _, _, (n % (gs.length : Nat)).toNat, rfl, rfl, hg2, ?_, ?_⟩
        · unfold ixN
          rw [List.length_map, if_pos (by omega), if_pos (by omega)]
        · refine ⟨_, rfl, _, rfl, _, _, rfl, rfl, (by show (0 : Int) < tp; omega), ?_⟩
          have ncq : c ≠ q := M.cq
          have ek : (gs.map V.int).set (n % (gs.length : Nat)).toNat (V.int (g1 / tp)) = (gs.set (n % (gs.length : Nat)).toNat (g1 / tp)).map V.int := by rw [List.map_set]
          show Q (V.int (g1 % tp)) (upd H2 q (.lst ((gs.map V.int).set (n % (gs.length : Nat)).toNat (V.int (g1 / tp)))))
          rw [ek]
          have hqm : m ≠ q := mq.symm
          refine k _ _ (Int.emod_nonneg _ (by omega)) (Int.emod_lt_of_pos _ (by omega)) ?_ ?_
          · exact ⟨Same.refl _, fun p o e h1 h2 => by rw [upd_ne h2]; exact F2.h p o e h1 h2, Fut.mut M2.s M2.gq, fun p e => .inl e, fun p e => by
              by_cases z : p = q
              · rw [z, upd_same] at e
                cases e
              · rw [upd_ne z] at e
                exact F2.k p e⟩
          · obtain ⟨n2, a2, b2, d2⟩ := M2.ob
            exact ⟨Fut.mut M2.s M2.gq, M2.gm, M2.gc, M2.gq, ⟨n2, by rw [upd_ne hqm]; exact a2, b2, d2⟩, ⟨cs, by rw [upd_ne ncq]; exact hc2, hcl⟩, ⟨_, upd_same, by rw [List.length_set]; exact hgl⟩, ncq⟩
      · rw [decide_eq_false hpg]
        refine iteF ?_
        refine ⟨_, rfl, m, _, rfl, dget (k := kc) hm2 (val_cells _ _ _), _, rfl, _, _, rfl, rfl, (by show (0 : Int) < 64; decide), c, _, _, V.int c0, rfl, rfl, SqL.of hc2, at_of (j := (n % 64).toNat) (by omega) (by rw [List.getElem?_map, hc0] <;> rfl), _, rfl, _, _, rfl, rfl, ⟨by decide, by decide⟩, _, _, rfl, rfl, .inl (by decide), _, _, rfl, rfl, _, rfl,
          _, _, rfl, hn0, by omega, fun r1 => ⟨_, rfl, _, _, rfl, rfl, _, _, rfl, by omega, by omega, fun r2 => ⟨_, rfl, _, _, rfl, rfl, (by show (0 : Int) < tp; omega), ?_⟩⟩⟩
        exact k _ _ (Int.emod_nonneg _ (by omega)) (Int.emod_lt_of_pos _ (by omega)) F2 M2
end
/-- begun(script) -/
def spBegun (K : PySem.W.Frag) : Sp := fun vs H Q _ => ∃ (a : Addr) (ns : List Int), vs = [.ref a] ∧ SqL K H a (ns.map V.int) ∧ ns.length ≤ 63 ∧
  ∀ (m c q : Addr) (H' : Hp), Same H H' → MAt H H' m c q 0 → Q (.ref m) H'
abbrev s__law_begun : Stmt := top 17
abbrev N__law_begun : List Str := ["_law_script", "_law_m", "_law_cell"]
theorem sc__law_begun : FnScope N__law_begun ["_law_script"] (defScope s__law_begun) := ⟨rfl, rfl, rfl, by decide +kernel, rfl, by decide +kernel, by decide +kernel⟩
section
variable {P : Program} {w : World} {K : PySem.W.Frag} {mg : Str → Option Value} {base : Heap} {f : Addr} {fd : FuncData}
theorem ok_begun (T : Bt mg) (cF : CalG P w K mg base 2 "_law_folded" (spFolded K)) (F : Fun K "_law_begun" "_law_begun" s__law_begun f fd) : FnG P w K mg base 3 f fd ["_law_script"] (spBegun K) := by
  refine okG F sc__law_begun (fun vs H Q E h => ?_) (fun cdv A outer s H vs Q E hr hgd h => ?_)
  · obtain ⟨a, ns, rfl, _⟩ := h
    rfl
  · obtain ⟨a, ns, rfl, hS, hl, k⟩ := h
    have nd := sc__law_begun.nd
    have hu := hu_of hr
    refine ⟨_, (pss_cons (ps_set (i := 1) nd rfl (Or.inl rfl) (pe_disp (pps_cons pe_str (pe_cG cF hr (by decide) hgd rfl (pa_cons (pv 0) pa_nil)) (pps_cons pe_str (pe_lst pa_nil) (pps_cons pe_str pe_int pps_nil))) (by rfl) (by rfl) (fun z => by cases z) (by decide)))
    (pss_cons (ps_dput hu (pv 1) pe_str (pe_lc (own := [("_law_cell", 2)]) rfl nd (pi_list (pv 0)) (blkOk_by (N := N__law_begun) (sc := defScope s__law_begun) (by decide +kernel)) (fun _ _ _ _ _ => (pg_name (i := 2) nd rfl (Or.inl rfl))) (fun _ _ _ _ _ => pts_nil) (fun _ _ _ _ _ => (pe_ifExp (pt_cmpR op_ge (pv 2) (pe_op op_pow pe_int pe_int) (nomark _)) (pv 2) pe_int))) rfl)
    (pss_one (ps_ret (pv 1))))), ?_⟩
    intro m nm
    have s0 : Same H (upd H m (.dK [])) := Same.new nm
    refine ⟨_, rfl, a, ns, rfl, s0.seq hS, hl, fun c cs H1 nc s1 hc hcl => ?_⟩
    refine ⟨(by show 0 ≤ sizeLine; decide), fun q0 nq0 => ?_⟩
    have s2 : Same H1 (upd H1 q0 (.lst [])) := Same.new nq0
    have hm2 : (upd H1 q0 (.lst [])) m = some (.dK []) := s2 _ _ (s1 _ _ upd_same)
    refine ⟨hm2, [(kc, .ref c), (kg, .ref q0), (ks, .int 0)], rfl, (by show 3 ≤ 15; decide), ?_⟩
    rw [merge_m]
    show tSeq _ _ _ [some (.ref a), some (.ref m), none] _
    have nmc : c ≠ m := fun z => by
      rw [z, upd_same] at nc
      cases nc
    have hc2 := s2 _ _ hc
    have s3 : Same H (upd (upd H1 q0 (.lst [])) m (.dK [(kc, .ref c), (kg, .ref q0), (ks, .int 0)])) := Fut.mut ((s0.trans s1).trans s2) nm
    have hm3 : (upd (upd H1 q0 (.lst [])) m (.dK [(kc, .ref c), (kg, .ref q0), (ks, .int 0)])) m = some (.dK [(kc, .ref c), (kg, .ref q0), (ks, .int 0)]) := upd_same
    have hc3 : (upd (upd H1 q0 (.lst [])) m (.dK [(kc, .ref c), (kg, .ref q0), (ks, .int 0)])) c = some (.lst (cs.map V.int)) := by rw [upd_ne nmc]; exact hc2
    generalize (upd (upd H1 q0 (.lst [])) m (.dK [(kc, .ref c), (kg, .ref q0), (ks, .int 0)])) = H3 at s3 hm3 hc3 ⊢
    refine ⟨_, rfl, a, rfl, ⟨_, s3.seq hS⟩, fun D hD => lc_it walk_list (fun i H4 => ∃ acc : List Int, H4 D = some (.lst (acc.map V.int)) ∧ acc.length = i ∧ Same H3 H4) ⟨[], upd_same, rfl, Same.new hD⟩ (fun i H4 _ ⟨_, _, _, s4⟩ => (s3.trans s4).seq hS) ?_ ?_⟩
    · rintro i x H4 H5 hi ⟨acc, hA, ha, s4⟩ ⟨rfl, hx⟩
      rw [List.length_map] at hi
      obtain ⟨z, hz, rfl⟩ : ∃ z, ns[i]? = some z ∧ x = V.int z := by
        rw [List.getElem?_map] at hx
        cases e : ns[i]? with
        | none =>
          rw [e] at hx
          cases hx
        | some z =>
          rw [e] at hx
          exact ⟨z, rfl, (Option.some.inj hx).symm⟩
      refine ⟨rfl, _, rfl, _, _, rfl, rfl, ⟨by decide, by decide, by decide⟩, _, _, rfl, rfl, _, rfl, ?_⟩
      have nl : (acc.map V.int).length < sizeLine := small1000 (by rw [List.length_map]; omega)
      refine ite2 (fun _ => ?_) (fun _ => ?_)
      · exact ⟨_, rfl, _, hA, nl, acc ++ [z], by rw [upd_same, List.map_append] <;> rfl, by rw [List.length_append, ha] <;> rfl, Fut.mut s4 hD⟩
      · exact ⟨_, hA, nl, acc ++ [0], by rw [upd_same, List.map_append] <;> rfl, by rw [List.length_append, ha] <;> rfl, Fut.mut s4 hD⟩
    · rintro H4 ⟨acc, hA, ha, s4⟩
      refine ⟨_, rfl, m, _, rfl, DPut.k (k := kg) (s4 _ _ hm3) (small1000 (by show 3 ≤ 1000; decide)), ?_⟩
      rw [put_great]
      rw [List.length_map] at ha
      have sF := Fut.mut (s3.trans s4) nm (o := .dK [(kc, .ref c), (kg, .ref D), (ks, .int 0)])
      have nD : D ≠ m := fun z => by
        rw [z, hm3] at hD
        cases hD
      refine ⟨_, rfl, k m c D _ sF ⟨sF, nm, s0.free nc, s3.free hD, ⟨0, upd_same, by decide, by decide⟩, ⟨cs, by rw [upd_ne nmc]; exact s4 _ _ hc3, hcl⟩, ⟨acc, by rw [upd_ne nD]; exact hA, by omega⟩, fun z => ?_⟩⟩
      rw [← z, hc3] at hD
      cases hD
end
end
end W2

namespace W2
open PySem PySem.Spec PyProof.Rows L2 Pg Pf
structure Bw (mg : Str → Option Value) : Prop where
  isinstance : mg "isinstance" = none
  bool : mg "bool" = none
  int : mg "int" = none
theorem ty_mono {K : PySem.W.Frag} {H H' : Hp} {x : V} {t : Value} (h : TyX K H x t) (s : Same H H') : TyX K H' x t := by
  cases h with
  | base b =>
    cases b with
    | non => exact .base .non
    | bl y => exact .base (.bl y)
    | int i => exact .base (.int i)
    | str y => exact .base (.str y)
    | flt y => exact .base (.flt y)
    | lst e => exact .base (.lst (s _ _ e))
    | frz e => exact .base (.frz (s _ _ e))
    | tup e => exact .base (.tup (s _ _ e))
    | dK e => exact .base (.dK (s _ _ e))
    | dT e => exact .base (.dT (s _ _ e))
    | ins e => exact .base (.ins (s _ _ e) ‹_› ‹_› ‹_› ‹_› ‹_›)
  | byt b => exact .byt b
  | set e => exact .set (s _ _ e)
  | kList e c => exact .kList e c
  | kTuple e c => exact .kTuple e c
  | kDict e c => exact .kDict e c
  | fTuple e => exact .fTuple (s _ _ e)
  | fDict e => exact .fDict (s _ _ e)
/-- any value, and which whole number it is, if it is one -/
inductive Vk (K : PySem.W.Frag) (G : Hp) : V → Option Int → Prop where
  | int (i : Int) : Vk K G (.int i) (some i)
  | bl (b : Bool) : Vk K G (.bl b) none
  | oth {x : V} {t : Value} (ty : TyX K G x t) (h1 : PySem.W.kitOne K t (.type "bool") = some false) (h2 : PySem.W.kitOne K t (.type "int") = some false) : Vk K G x none
theorem Vk.mono {K : PySem.W.Frag} {G G' : Hp} {x : V} {o : Option Int} (h : Vk K G x o) (s : Same G G') : Vk K G' x o := by
  cases h with
  | int i => exact .int i
  | bl b => exact .bl b
  | oth ty h1 h2 => exact .oth (ty_mono ty s) h1 h2
def inO (o : Option Int) (lo hi : Int) : Bool := match o with
  | some i => decide (lo ≤ i) && decide (i ≤ hi)
  | none => false
def partO (a b c : Option Int) : V := if inO a 1 6 = false then .str "rights" else if inO b 1 6 = false then .str "lefts" else if inO c 1 12 = false then .str "places" else .non
abbrev s_is_int : Stmt := top  6
theorem sc_is_int : FnScope ["value"] ["value"] (defScope s_is_int) := ⟨rfl, rfl, rfl, by decide +kernel, rfl, by decide +kernel, by decide +kernel⟩
abbrev s_is_number : Stmt := top 7
abbrev N_is_number : List Str := ["value", "low", "high"]
theorem sc_is_number : FnScope N_is_number ["value", "low", "high"] (defScope s_is_number) := ⟨rfl, rfl, rfl, by decide +kernel, rfl, by decide +kernel, by decide +kernel⟩
abbrev s_wrong_part : Stmt := top 11
abbrev N_wrong_part : List Str := ["rights", "lefts", "places"]
theorem sc_wrong_part : FnScope N_wrong_part ["rights", "lefts", "places"] (defScope s_wrong_part) := ⟨rfl, rfl, rfl, by decide +kernel, rfl, by decide +kernel, by decide +kernel⟩
abbrev s_is_size : Stmt := inClass (top 10) 3
theorem sc_is_size : FnScope N_wrong_part ["rights", "lefts", "places"] (defScope s_is_size) := ⟨rfl, rfl, rfl, by decide +kernel, rfl, by decide +kernel, by decide +kernel⟩
abbrev s__law_is_from : Stmt := top 19
abbrev N__law_is_from : List Str := ["_law_thing_here", "_law_top"]
theorem sc__law_is_from : FnScope N__law_is_from ["_law_thing_here", "_law_top"] (defScope s__law_is_from) := ⟨rfl, rfl, rfl, by decide +kernel, rfl, by decide +kernel, by decide +kernel⟩
abbrev s__law_due : Stmt := top 20
abbrev N__law_due : List Str := ["_law_east", "_law_west", "_law_spots"]
theorem sc__law_due : FnScope N__law_due ["_law_east", "_law_west", "_law_spots"] (defScope s__law_due) := ⟨rfl, rfl, rfl, by decide +kernel, rfl, by decide +kernel, by decide +kernel⟩
def spIntD (K : PySem.W.Frag) : Sp := fun vs H Q _ => ∃ (G : Hp) (x : V) (o : Option Int), vs = [x] ∧ Same G H ∧ Vk K G x o ∧ Q (.bl o.isSome) H
def spNumD (K : PySem.W.Frag) : Sp := fun vs H Q _ => ∃ (G : Hp) (x : V) (o : Option Int) (lo hi : Int), vs = [x, .int lo, .int hi] ∧ Same G H ∧ Vk K G x o ∧ Q (.bl (inO o lo hi)) H
def spWrongD (K : PySem.W.Frag) : Sp := fun vs H Q _ => ∃ (G : Hp) (x y z : V) (a b c : Option Int), vs = [x, y, z] ∧ Same G H ∧ Vk K G x a ∧ Vk K G y b ∧ Vk K G z c ∧ Q (partO a b c) H
def spSizeD (K : PySem.W.Frag) : Sp := fun vs H Q _ => ∃ (G : Hp) (x y z : V) (a b c : Option Int), vs = [x, y, z] ∧ Same G H ∧ Vk K G x a ∧ Vk K G y b ∧ Vk K G z c ∧ Q (.bl (decide (partO a b c = .non))) H
def spFrom (K : PySem.W.Frag) : Sp := fun vs H Q _ => ∃ (G : Hp) (x : V) (o : Option Int) (hi : Int), vs = [x, .int hi] ∧ Same G H ∧ Vk K G x o ∧ Q (.bl (inO o 1 hi)) H
/-- the part, in a list -/
def dueO (a b c : Option Int) : List V := match partO a b c with
  | .non => []
  | v => [v]
def spDue (K : PySem.W.Frag) : Sp := fun vs H Q _ => ∃ (G : Hp) (x y z : V) (a b c : Option Int), vs = [x, y, z] ∧ Same G H ∧ Vk K G x a ∧ Vk K G y b ∧ Vk K G z c ∧ ∀ p, H p = none → Q (.ref p) (upd H p (.lst (dueO a b c)))
/-- the class's constants, read by its name -/
structure Wc (K : PySem.W.Frag) (mg : Str → Option Value) (C : Addr) : Prop where
  mgC : mg "Way" = some (.ref C)
  rd : ∃ mc t6 t12, ClX.CRead K C mc ∧ ClX.CVal K C mc "MAX_WALKERS" (.int 6) (.int 6 t6) ∧ ClX.CVal K C mc "MAX_PLACES" (.int 12) (.int 12 t12)
section
variable {P : Program} {w : World} {K : PySem.W.Frag} {mg : Str → Option Value} {base : Heap} {f C : Addr} {fd : FuncData}
theorem ok_is_int (T : Bw mg) (F : Fun K "is_int" "is_int" s_is_int f fd) : FnOk P w K mg base CX0 1 f fd ["value"] (spIntD K) := by
  refine F.ok sc_is_int (fun vs H Q E h => ?_) (fun cdv A outer s H vs Q E hr h => ?_)
  · obtain ⟨G, x, o, rfl, _⟩ := h
    rfl
  · obtain ⟨G, x, o, rfl, sG, hv, k⟩ := h
    refine ⟨_, (pss_one (ps_ret (pe_and (pe_callB call_isi (by rfl) T.isinstance (by decide +kernel) (pa_cons (pv 0) (pa_cons (pe_bltn (v := .ty "int") (by rfl) T.int (by decide +kernel) rfl) pa_nil))) (pe_one (pe_not (pe_callB call_isi (by rfl) T.isinstance (by decide +kernel) (pa_cons (pv 0) (pa_cons (pe_bltn (v := .ty "bool") (by rfl) T.bool (by decide +kernel) rfl) pa_nil)))))))), ?_⟩
    cases hv with
    | int v =>
      refine ⟨_, rfl, _, _, _, _, true, rfl, .ty _, .base (.int _), kit_ty (by decide +kernel), _, rfl, ?_⟩
      refine iteT ?_
      refine ⟨_, rfl, _, _, _, _, false, rfl, .ty _, .base (.int _), kit_ty (by decide +kernel), _, rfl, ?_⟩
      exact k
    | bl b =>
      refine ⟨_, rfl, _, _, _, _, true, rfl, .ty _, .base (.bl _), kit_ty (by decide +kernel), _, rfl, ?_⟩
      refine iteT ?_
      refine ⟨_, rfl, _, _, _, _, true, rfl, .ty _, .base (.bl _), kit_ty (by decide +kernel), _, rfl, ?_⟩
      exact k
    | oth ty h1 h2 =>
      refine ⟨_, rfl, _, _, _, _, false, rfl, .ty _, ty_mono ty sG, h2, _, rfl, ?_⟩
      refine iteF ?_
      exact k
theorem ok_is_number (cI : CalO P w K mg base 1 "is_int" (spIntD K)) (F : Fun K "is_number" "is_number" s_is_number f fd) : FnOk P w K mg base CX0 2 f fd ["value", "low", "high"] (spNumD K) := by
  refine F.ok sc_is_number (fun vs H Q E h => ?_) (fun cdv A outer s H vs Q E hr h => ?_)
  · obtain ⟨G, x, o, lo, hi, rfl, _⟩ := h
    rfl
  · obtain ⟨G, x, o, lo, hi, rfl, sG, hv, k⟩ := h
    refine ⟨_, (pss_one (ps_ret (pe_and (pe_cO cI hr (by decide) rfl (pa_cons (pv 0) pa_nil)) (pe_one (pe_chain op_le op_le (pv 1) (pv 0) (pv 2)))))), ?_⟩
    refine ⟨_, rfl, G, x, o, rfl, sG, hv, ?_⟩
    cases hv with
    | int v =>
      refine ⟨_, rfl, ?_⟩
      refine iteT ?_
      refine ⟨_, rfl, _, rfl, _, _, rfl, rfl, _, rfl, ?_⟩
      have k' : Q (.bl (decide (lo ≤ v) && decide (v ≤ hi))) H := k
      by_cases h1 : lo ≤ v
      · rw [decide_eq_true h1] at k' ⊢
        refine iteT ?_
        refine ⟨_, rfl, _, _, rfl, rfl, ?_⟩
        rw [Bool.true_and] at k'
        exact k'
      · rw [decide_eq_false h1] at k' ⊢
        refine iteF ?_
        exact k'
    | bl b =>
      refine ⟨_, rfl, ?_⟩
      exact iteF k
    | oth ty h1 h2 =>
      refine ⟨_, rfl, ?_⟩
      exact iteF k
theorem ok_wrong (T : Wc K mg C) (cN : CalO P w K mg base 2 "is_number" (spNumD K)) (F : Fun K "wrong_part" "wrong_part" s_wrong_part f fd) : FnOk P w K mg base CX0 3 f fd ["rights", "lefts", "places"] (spWrongD K) := by
  refine F.ok sc_wrong_part (fun vs H Q E h => ?_) (fun cdv A outer s H vs Q E hr h => ?_)
  · obtain ⟨G, x, y, z, a, b, c, rfl, _⟩ := h
    rfl
  · obtain ⟨G, x, y, z, a, b, c, rfl, sG, hx, hy, hz, q⟩ := h
    obtain ⟨mc, t6, t12, hrd, hw, hp⟩ := T.rd
    refine ⟨_, (pss_cons (ps_if (pt_not (pt_val (pe_cO cN hr (by decide) rfl (pa_cons (pv 0) (pa_cons pe_int (pa_cons (ClX.pe_cval (pe_glob (v := .ref C) (by rfl) T.mgC rfl)) pa_nil)))))) (pss_one (ps_ret pe_str)) pss_nil)
      (pss_cons (ps_if (pt_not (pt_val (pe_cO cN hr (by decide) rfl (pa_cons (pv 1) (pa_cons pe_int (pa_cons (ClX.pe_cval (pe_glob (v := .ref C) (by rfl) T.mgC rfl)) pa_nil)))))) (pss_one (ps_ret pe_str)) pss_nil)
      (pss_cons (ps_if (pt_not (pt_val (pe_cO cN hr (by decide) rfl (pa_cons (pv 2) (pa_cons pe_int (pa_cons (ClX.pe_cval (pe_glob (v := .ref C) (by rfl) T.mgC rfl)) pa_nil)))))) (pss_one (ps_ret pe_str)) pss_nil)
      (pss_one (ps_ret pe_non))))), ?_⟩
    unfold partO at q
    refine ⟨_, rfl, C, mc, _, _, rfl, hrd, hw, G, x, a, 1, 6, rfl, sG, hx, _, rfl, ?_⟩
    cases e1 : inO a 1 6 with
    | false =>
      rw [e1, if_pos rfl] at q
      exact iteT q
    | true =>
      rw [e1, if_neg (by decide)] at q
      refine iteF ?_
      refine ⟨_, rfl, C, mc, _, _, rfl, hrd, hw, G, y, b, 1, 6, rfl, sG, hy, _, rfl, ?_⟩
      cases e2 : inO b 1 6 with
      | false =>
        rw [e2, if_pos rfl] at q
        exact iteT q
      | true =>
        rw [e2, if_neg (by decide)] at q
        refine iteF ?_
        refine ⟨_, rfl, C, mc, _, _, rfl, hrd, hp, G, z, c, 1, 12, rfl, sG, hz, _, rfl, ?_⟩
        cases e3 : inO c 1 12 with
        | false =>
          rw [e3, if_pos rfl] at q
          exact iteT q
        | true =>
          rw [e3, if_neg (by decide)] at q
          refine iteF ?_
          exact q
theorem ok_size (cW : CalO P w K mg base 3 "wrong_part" (spWrongD K)) (F : Fun K "is_size" "Way.is_size" s_is_size f fd) : FnOk P w K mg base CX0 4 f fd ["rights", "lefts", "places"] (spSizeD K) := by
  refine F.ok sc_is_size (fun vs H Q E h => ?_) (fun cdv A outer s H vs Q E hr h => ?_)
  · obtain ⟨G, x, y, z, a, b, c, rfl, _⟩ := h
    rfl
  · obtain ⟨G, x, y, z, a, b, c, rfl, sG, hx, hy, hz, q⟩ := h
    refine ⟨_, (pss_one (ps_ret (pe_cmpR op_isN (pe_cO cW hr (by decide) rfl (pa_cons (pv 0) (pa_cons (pv 1) (pa_cons (pv 2) pa_nil)))) pe_non (nomark _)))), ?_⟩
    refine ⟨_, rfl, _, rfl, _, rfl, G, x, y, z, a, b, c, rfl, sG, hx, hy, hz, ?_⟩
    exact ⟨rfl, q⟩
theorem ok_from (T : Bw mg) (F : Fun K "_law_is_from" "_law_is_from" s__law_is_from f fd) : FnOk P w K mg base CX0 2 f fd ["_law_thing_here", "_law_top"] (spFrom K) := by
  refine F.ok sc__law_is_from (fun vs H Q E h => ?_) (fun cdv A outer s H vs Q E hr h => ?_)
  · obtain ⟨G, x, o, hi, rfl, _⟩ := h
    rfl
  · obtain ⟨G, x, o, hi, rfl, sG, hv, q⟩ := h
    refine ⟨_, (pss_one (ps_ret (pe_and (pe_callB call_isi (by rfl) T.isinstance (by decide +kernel) (pa_cons (pv 0) (pa_cons (pe_bltn (v := .ty "int") (by rfl) T.int (by decide +kernel) rfl) pa_nil))) (pe_and (pe_not (pe_callB call_isi (by rfl) T.isinstance (by decide +kernel) (pa_cons (pv 0) (pa_cons (pe_bltn (v := .ty "bool") (by rfl) T.bool (by decide +kernel) rfl) pa_nil)))) (pe_one (pe_chain op_le op_le pe_int (pv 0) (pv 1))))))), ?_⟩
    cases hv with
    | int v =>
      refine ⟨_, rfl, _, _, _, _, true, rfl, .ty _, .base (.int _), kit_ty (by decide +kernel), _, rfl, ?_⟩
      refine iteT ?_
      refine ⟨_, rfl, _, _, _, _, false, rfl, .ty _, .base (.int _), kit_ty (by decide +kernel), _, rfl, _, rfl, ?_⟩
      refine iteT ?_
      refine ⟨_, rfl, _, _, rfl, rfl, _, rfl, ?_⟩
      have q' : Q (.bl (decide (1 ≤ v) && decide (v ≤ hi))) H := q
      by_cases h1 : 1 ≤ v
      · rw [decide_eq_true h1] at q' ⊢
        refine iteT ?_
        refine ⟨_, rfl, _, _, rfl, rfl, ?_⟩
        rw [Bool.true_and] at q'
        exact q'
      · rw [decide_eq_false h1] at q' ⊢
        refine iteF ?_
        exact q'
    | bl b =>
      refine ⟨_, rfl, _, _, _, _, true, rfl, .ty _, .base (.bl _), kit_ty (by decide +kernel), _, rfl, ?_⟩
      refine iteT ?_
      refine ⟨_, rfl, _, _, _, _, true, rfl, .ty _, .base (.bl _), kit_ty (by decide +kernel), _, rfl, _, rfl, ?_⟩
      refine iteF ?_
      exact q
    | oth ty h1 h2 =>
      refine ⟨_, rfl, _, _, _, _, false, rfl, .ty _, ty_mono ty sG, h2, _, rfl, ?_⟩
      refine iteF ?_
      exact q
theorem ok_due (cF : CalO P w K mg base 2 "_law_is_from" (spFrom K)) (F : Fun K "_law_due" "_law_due" s__law_due f fd) : FnOk P w K mg base CX0 3 f fd ["_law_east", "_law_west", "_law_spots"] (spDue K) := by
  refine F.ok sc__law_due (fun vs H Q E h => ?_) (fun cdv A outer s H vs Q E hr h => ?_)
  · obtain ⟨G, x, y, z, a, b, c, rfl, _⟩ := h
    rfl
  · obtain ⟨G, x, y, z, a, b, c, rfl, sG, hx, hy, hz, q⟩ := h
    refine ⟨_, (pss_cons (ps_if (pt_not (pt_val (pe_cO cF hr (by decide) rfl (pa_cons (pv 0) (pa_cons pe_int pa_nil))))) (pss_one (ps_ret (pe_lst (pa_cons pe_str pa_nil)))) pss_nil)
      (pss_cons (ps_if (pt_not (pt_val (pe_cO cF hr (by decide) rfl (pa_cons (pv 1) (pa_cons pe_int pa_nil))))) (pss_one (ps_ret (pe_lst (pa_cons pe_str pa_nil)))) pss_nil)
      (pss_one (ps_ret (pe_ifExp (pt_val (pe_cO cF hr (by decide) rfl (pa_cons (pv 2) (pa_cons pe_int pa_nil)))) (pe_lst pa_nil) (pe_lst (pa_cons pe_str pa_nil))))))), ?_⟩
    unfold dueO partO at q
    refine ⟨_, rfl, G, x, a, 6, rfl, sG, hx, _, rfl, ?_⟩
    cases e1 : inO a 1 6 with
    | false =>
      rw [e1, if_pos rfl] at q
      exact iteT ⟨(by show 1 ≤ sizeLine; decide), q⟩
    | true =>
      rw [e1, if_neg (by decide)] at q
      refine iteF ?_
      refine ⟨_, rfl, G, y, b, 6, rfl, sG, hy, _, rfl, ?_⟩
      cases e2 : inO b 1 6 with
      | false =>
        rw [e2, if_pos rfl] at q
        exact iteT ⟨(by show 1 ≤ sizeLine; decide), q⟩
      | true =>
        rw [e2, if_neg (by decide)] at q
        refine iteF ?_
        refine ⟨_, rfl, G, z, c, 12, rfl, sG, hz, _, rfl, ?_⟩
        cases e3 : inO c 1 12 with
        | false =>
          rw [e3, if_pos rfl] at q
          exact iteF ⟨(by show 1 ≤ sizeLine; decide), q⟩
        | true =>
          rw [e3, if_neg (by decide)] at q
          exact iteT ⟨(by show 0 ≤ sizeLine; decide), q⟩
end
end W2

namespace W2
open PySem PySem.Spec PyProof.Rows L2 Pg Pf
theorem FutM.mut {m q D : Addr} {G H G' H' : Hp} {o : HO} (f : FutM m q G H G' H') (hD : H D = none) (hG : G' D = none) : FutM m q G H G' (upd H' D o) :=
  ⟨f.g, fun p u e h1 h2 => by rw [upd_ne (ne_of_none e hD)]; exact f.h p u e h1 h2, Fut.mut f.s hG, f.n, fun p e => by
    by_cases z : p = D
    · rw [z]
      exact hD
    · rw [upd_ne z] at e
      exact f.k p e⟩
theorem MAt.ne {G H : Hp} {m c q D : Addr} {b : Nat} (M : MAt G H m c q b) (hD : H D = none) : D ≠ m ∧ D ≠ c ∧ D ≠ q := by
  obtain ⟨n, h1, _⟩ := M.ob
  obtain ⟨cs, h2, _⟩ := M.cs
  obtain ⟨gs, h3, _⟩ := M.gs
  exact ⟨(ne_of_none h1 hD).symm, (ne_of_none h2 hD).symm, (ne_of_none h3 hD).symm⟩
theorem MAt.mut {G H : Hp} {m c q D : Addr} {b : Nat} {o : HO} (M : MAt G H m c q b) (n : D ≠ m ∧ D ≠ c ∧ D ≠ q) (hG : G D = none) : MAt G (upd H D o) m c q b := by
  obtain ⟨n1, n2, n3⟩ := n
  obtain ⟨x, h1, h1'⟩ := M.ob
  obtain ⟨cs, h2, h2'⟩ := M.cs
  obtain ⟨gs, h3, h3'⟩ := M.gs
  exact ⟨Fut.mut M.s hG, M.gm, M.gc, M.gq, ⟨x, by rw [upd_ne n1.symm]; exact h1, h1'⟩, ⟨cs, by rw [upd_ne n2.symm]; exact h2, h2'⟩, ⟨gs, by rw [upd_ne n3.symm]; exact h3, h3'⟩, M.cq⟩
theorem FutM.fresh {m q D : Addr} {G H G' H' : Hp} (f : FutM m q G H G' H') (s : Same G H) (hD : H D ≠ none) (hG : G D = none) : G' D = none := by
  cases e : G' D with
  | none => rfl
  | some o =>
    rcases f.n D (by rw [e]; simp) with z | z
    · exact absurd hG z
    · exact absurd z hD
/-- an ascending, nonempty list of places below many -/
def Cell (many : Int) (ns : List Int) : Prop := ns ≠ [] ∧ ns.Pairwise (· < ·) ∧ ∀ x ∈ ns, 0 ≤ x ∧ x < many
end W2

namespace W2
open PySem PySem.Spec PyProof.Rows L2 Pg Pf
/-! ### nets as data -/
def cellD (c : List Int) : PyData := .tuple (c.map PyData.int)
def rowL (r : List (List Int)) : PyData := .list (r.map cellD)
def rowT (r : List (List Int)) : PyData := .tuple (r.map cellD)
def tabL (T : List (List (List Int))) : PyData := .list (T.map rowL)
def tabT (T : List (List (List Int))) : PyData := .tuple (T.map rowT)
def netD (e w k : Int) (T : List (List (List Int))) : PyData := .tuple [.int e, .int w, .int k, tabL T]
structure Net (most many e w k : Int) (T : List (List (List Int))) : Prop where
  e1 : 1 ≤ e
  e2 : e ≤ most
  w1 : 1 ≤ w
  w2 : w ≤ most
  k1 : 1 ≤ k
  k2 : k ≤ many
  len : (T.length : Int) = e
  row : ∀ r ∈ T, (r.length : Int) = w ∧ ∀ c ∈ r, Cell k c
theorem dp_cell {K : PySem.W.Frag} {H : Hp} {t : Addr} {ns : List Int} (h : H t = some (.tup (ns.map V.int))) : Dp K H (.ref t) (cellD ns) := .tup (Evl.st_of h) (DpAll.ints ns)
def rangeI (k : Int) : List Int := (List.range k.toNat).map fun i => (0 : Int) + (i : Nat)
theorem rangeI_V (k : Int) : rgV 0 k = (rangeI k).map V.int := by
  unfold rgV rangeI
  rw [List.map_map, Int.sub_zero]
  rfl
theorem cell_range {k : Int} (h : 1 ≤ k) : Cell k (rangeI k) := by
  unfold rangeI
  refine ⟨fun z => ?_, ?_, fun x hx => ?_⟩
  · have := congrArg List.length z
    rw [List.length_map, List.length_range] at this
    simp at this
    omega
  · rw [List.pairwise_map]
    exact List.pairwise_lt_range.imp fun h => by omega
  · obtain ⟨i, hi, rfl⟩ := List.mem_map.mp hx
    rw [List.mem_range] at hi
    omega
/-- what stands at D, new since H, is known for good from now on -/
theorem FutM.freeze {m q D : Addr} {G H G' H' : Hp} {o : HO} (f : FutM m q G H G' H') (hD : H D = none) (hG : G' D = none) (hd : H' D = some o) : FutM m q G H (upd G' D o) H' :=
  ⟨f.g.trans (Same.new hG), f.h, fun b u e => by
    by_cases z : b = D
    · rw [z, upd_same] at e
      rw [z, hd]
      exact e
    · rw [upd_ne z] at e
      exact f.s _ _ e, fun p e => by
    by_cases z : p = D
    · exact .inr (z ▸ hD)
    · rw [upd_ne z] at e
      exact f.n p e, f.k⟩
theorem MAt.freeze {G H : Hp} {m c q D : Addr} {b : Nat} {o : HO} (M : MAt G H m c q b) (n : D ≠ m ∧ D ≠ c ∧ D ≠ q) (hd : H D = some o) : MAt (upd G D o) H m c q b := by
  obtain ⟨n1, n2, n3⟩ := n
  exact ⟨fun b u e => by
    by_cases z : b = D
    · rw [z, upd_same] at e
      rw [z, hd]
      exact e
    · rw [upd_ne z] at e
      exact M.s _ _ e, by rw [upd_ne n1.symm]; exact M.gm, by rw [upd_ne n2.symm]; exact M.gc, by rw [upd_ne n3.symm]; exact M.gq, M.ob, M.cs, M.gs, M.cq⟩
end W2

/-! Rul: further rules. -/
namespace Rul
open PySem PySem.Spec PyProof.Rows L2
theorem tup_mul1 (l : Addr) (items : Array Value) (n : Nat) (dd : Option Addr) (sl : Array (Option Value)) (u : Tok) (c1 : (items.isEmpty || (1 : Int) == 1) = true) :
    Meets (Builtin.«tuple.__mul__» ⟨[.ref l, .int 1 u], []⟩) (fun _ R s => s.heap.get? l = some { cls := .type "tuple", dict := dd, data := .seq items n, slots := sl } ∧ R (.ok (.ret (Value.ref l))) s) :=
  .of_wp fun prog w A R s h => by
    obtain ⟨hp, g, d, tk, os⟩ := s
    obtain ⟨hl, h⟩ := h
    have f1 := AutoSeq1.idx_int
    wp_walk using wpAny_loadPart' hl
    exact ⟨_, rfl, h⟩
def rRepA (K : PySem.W.Frag) : R2 := fun x y H Q => ∃ l k xs, x = .ref l ∧ y = .int k ∧ SqT K H l xs ∧ xs ≠ [] ∧ 1 ≤ k ∧ k ≤ 1000 ∧ xs.length ≤ 1000 ∧ (k = 1 → Q (.ref l) H) ∧ (k ≠ 1 → ∀ p, H p = none → Q (.ref p) (upd H p (.tup (List.replicate k.toNat xs).flatten)))
section
variable {X : Cx}
theorem op_rep1 : OpR X (binaryOp .Mult) (fun x y H Q => ∃ l xs, x = .ref l ∧ y = .int 1 ∧ SqT X.K H l xs ∧ Q (.ref l) H) := by
  intro pins s σ H x y v u Q I rx ry h
  obtain ⟨l, xs, rfl, rfl, hT, q⟩ := h
  cases rx
  obtain ⟨t, rfl⟩ := ry
  obtain ⟨its, r, ⟨⟨cls, dd, data, sl⟩, ho, hc, n, hd⟩, hs⟩ := I.tuple hT
  simp only at hc hd
  subst hc hd
  have c1 : (its.toArray.isEmpty || (1 : Int) == 1) = true := by
    rw [show ((1 : Int) == 1) = true from rfl, Bool.or_true]
  exact wpAny_binaryOp_repeat_ref (T := "tuple") (U := "int") (by decide) ⟨_, ho, rfl⟩ (fun s' => typeIs_int s' 1 t) noFill_tuple_mul F.fills_int_mul F.slot_int_rmul repeat_tuple F.slot_int_index.lookup
    (call_meets F.slot_int_rmul (typeIs_int s 1 t) F.entry_int_rmul (F.args_int_rmul_2 _ _) (int_rmul_tuple 1 t l its.toArray n dd sl)
      ⟨ho, rfl, ⟨_, ho, rfl⟩, call_meets F.slot_tuple_mul ⟨_, ho, rfl⟩ F.entry_tuple_mul (F.args_tuple_mul_2 _ _) (tup_mul1 l its.toArray n dd sl t c1) ⟨ho, ⟨.ref l, H, I, rfl, q⟩⟩⟩)
theorem op_repA : OpR X (binaryOp .Mult) (rRepA X.K) := by
  intro pins s σ H x y v u Q I rx ry h
  obtain ⟨l, k, xs, rfl, rfl, hT, hne, h1, h2, hz, q1, q2⟩ := h
  by_cases e : k = 1
  · subst e
    exact op_rep1 pins s σ H _ _ v u Q I rx ry ⟨l, xs, rfl, rfl, hT, q1 rfl⟩
  · exact op_repT pins s σ H _ _ v u Q I rx ry ⟨l, k, xs, rfl, rfl, hT, hne, by omega, h2, hz, q2 e⟩
end
end Rul

/-! Tab: tables as functions of the pair; tuples cut and joined. -/
namespace Tab
open PySem PySem.Spec PyProof.Rows L2 Pg Pf Rul W2
theorem slA {K : PySem.W.Frag} {G H : Hp} {a : Addr} {xs : List V} {lo hi : Option Int} {Q : VK} (s : Same G H) (h : SqT K G a xs)
    (k : ∀ p G' H', Fut G H G' H' → SqT K G' p (cutV xs lo hi) → Q (.ref p) H') : rSlA K (.ref a) lo hi H Q := by
  refine ⟨a, xs, rfl, Evl.ex_t s h, fun ⟨e1, e2⟩ => ?_, fun _ p hp => ?_⟩
  · have e : cutV xs lo hi = xs := by
      unfold cutV
      rw [e1, e2, List.drop_zero, Nat.sub_zero, List.take_length]
    exact k a G H (Fut.refl s) (by rw [e]; exact h)
  · exact k p _ _ (Fut.new s hp) (Evl.st_of upd_same)
theorem catA {K : PySem.W.Frag} {G H : Hp} {a b : Addr} {xs ys : List V} {Q : VK} (s : Same G H) (h1 : SqT K G a xs) (h2 : SqT K G b ys) (hl : xs.length + ys.length ≤ 1000)
    (k : ∀ p G' H', Fut G H G' H' → SqT K G' p (xs ++ ys) → Q (.ref p) H') : rCatA K (.ref a) (.ref b) H Q := by
  refine ⟨a, b, xs, ys, rfl, rfl, Evl.ex_t s h1, Evl.ex_t s h2, Nat.le_of_lt (small1000 hl), fun e => ?_, fun _ e => ?_, fun _ _ p hp => ?_⟩
  · exact k b G H (Fut.refl s) (by rw [e]; exact h2)
  · exact k a G H (Fut.refl s) (by rw [e, List.append_nil]; exact h1)
  · exact k p _ _ (Fut.new s hp) (Evl.st_of upd_same)
theorem repA {K : PySem.W.Frag} {G H : Hp} {a : Addr} {xs : List V} {n : Int} {Q : VK} (s : Same G H) (h : SqT K G a xs) (hx : xs ≠ []) (h1 : 1 ≤ n) (h2 : n ≤ 1000) (h3 : xs.length ≤ 1000)
    (k : ∀ p G' H', Fut G H G' H' → SqT K G' p (List.replicate n.toNat xs).flatten → Q (.ref p) H') : rRepA K (.ref a) (.int n) H Q := by
  refine ⟨a, n, xs, rfl, rfl, Evl.ex_t s h, hx, h1, h2, h3, fun e => ?_, fun _ p hp => ?_⟩
  · refine k a G H (Fut.refl s) ?_
    have e : (List.replicate n.toNat xs).flatten = xs := by
      subst e
      show (List.replicate 1 xs).flatten = xs
      simp
    rw [e]
    exact h
  · exact k p _ _ (Fut.new s hp) (Evl.st_of upd_same)
theorem cut_to (xs : List V) (j : Nat) (h : j ≤ xs.length) : cutV xs none (some (j : Int)) = xs.take j := by
  unfold cutV
  rw [HT.sIx_none, HT.sIx_nat, List.drop_zero, Nat.sub_zero, Nat.min_eq_left h]
theorem cut_from (xs : List V) (j : Nat) (h : j ≤ xs.length) : cutV xs (some (j : Int)) none = xs.drop j := by
  unfold cutV
  rw [HT.sIx_none, HT.sIx_nat, Nat.min_eq_left h]
  exact List.take_of_length_le (by rw [List.length_drop]; exact Nat.le_refl _)
theorem set_cut {α : Type} (xs : List α) (j : Nat) (v : α) (h : j < xs.length) : xs.take j ++ [v] ++ xs.drop (j + 1) = xs.set j v := by
  rw [List.set_eq_take_append_cons_drop, if_pos h, List.append_assoc]
  rfl
/-- a table by its entries -/
def tabF (r l : Nat) (c : Nat → Nat → List Int) : List (List (List Int)) := (List.range r).map fun i => (List.range l).map fun j => c i j
theorem tabF_len (r l : Nat) (c : Nat → Nat → List Int) : (tabF r l c).length = r := by unfold tabF; rw [List.length_map, List.length_range]
theorem tabF_at {r l : Nat} {c : Nat → Nat → List Int} {i : Nat} (h : i < r) : (tabF r l c)[i]? = some ((List.range l).map fun j => c i j) := by
  unfold tabF
  rw [List.getElem?_map, List.getElem?_range h]
  rfl
theorem rowF_at {l : Nat} {f : Nat → List Int} {j : Nat} (h : j < l) : ((List.range l).map f)[j]? = some (f j) := by
  rw [List.getElem?_map, List.getElem?_range h]
  rfl
def put2 (c : Nat → Nat → List Int) (i j : Nat) (v : List Int) : Nat → Nat → List Int := fun i' j' => if i' = i ∧ j' = j then v else c i' j'
theorem map_set_range {α : Type} (n i : Nat) (f : Nat → α) (v : α) : ((List.range n).map f).set i v = (List.range n).map fun k => if k = i then v else f k := by
  apply List.ext_getElem?
  intro k
  rw [List.getElem?_set, List.getElem?_map, List.getElem?_map, List.length_map, List.length_range]
  by_cases hk : k < n
  · rw [List.getElem?_range hk]
    by_cases e : i = k
    · subst e
      simp [hk]
    · rw [if_neg e]
      have e' : ¬ k = i := fun z => e z.symm
      simp [e']
  · have hn : (List.range n)[k]? = none := by
      rw [List.getElem?_eq_none_iff, List.length_range]
      omega
    rw [hn]
    by_cases e : i = k
    · subst e
      simp [hk]
    · rw [if_neg e]
      rfl
theorem tabF_put (r l : Nat) (c : Nat → Nat → List Int) (i j : Nat) (v : List Int) : (tabF r l c).set i (((List.range l).map fun j => c i j).set j v) = tabF r l (put2 c i j v) := by
  unfold tabF
  rw [map_set_range, map_set_range]
  apply List.map_congr_left
  intro a _
  by_cases e : a = i
  · subst e
    rw [if_pos rfl]
    apply List.map_congr_left
    intro b _
    unfold put2
    by_cases e2 : b = j
    · rw [if_pos e2, if_pos ⟨rfl, e2⟩]
    · rw [if_neg e2, if_neg (fun z => e2 z.2)]
  · rw [if_neg e]
    apply List.map_congr_left
    intro b _
    unfold put2
    rw [if_neg (fun z => e z.1)]
theorem DpAll.set {K : PySem.W.Frag} {H : Hp} : ∀ {vs : List V} {ds : List PyData} {j : Nat} {v : V} {d : PyData}, DpAll K H vs ds → Dp K H v d → DpAll K H (vs.set j v) (ds.set j d)
  | _, _, _, _, _, .nil, _ => .nil
  | _, _, 0, _, _, .cons _ b, h => .cons h b
  | _, _, j + 1, _, _, .cons a b, h => .cons a (DpAll.set (j := j) b h)
end Tab

namespace W2
open PySem PySem.Spec PyProof.Rows L2 Pg Pf
abbrev s_xi : Stmt := inClass (top 3) 0
abbrev x_qual : Str := "InvalidWay.__init__"
abbrev x_par : Str := "part"
abbrev x_fld : Str := "part"
/-- an own exception's __init__ that says super().__init__(text) and keeps one value -/
structure Xi (P : Program) (K : PySem.W.Frag) (C f : Addr) (fd : FuncData) : Prop where
  oex : OexC K C
  sub : PySem.W.subIn K (.ref C) (.type "ValueError") = some true
  own : PySem.W.mroIn K C (.ref C) = some true
  sup : PySem.W.ks_superIn K C C "__init__" = some (some (.builtin "ValueError.__init__"))
  ini : PySem.W.excInitIn K C PySem.HandSPX.veTail "ValueError.__new__" = true
  opq : PySem.W.nsIn K PySem.cStatics "thirdparty.any" = some none
  nof : PySem.W.findIn K (.ref C) x_fld = some none
  fn : ∃ (kV doc pm ct oc : Value) (an od : Option Addr) (osl : Array (Option Value)) (cc cda : Addr),
    fd = PySem.W.ksFn "__init__" x_qual (defArgs s_xi) (defBody s_xi) (defScope s_xi) .none kV doc pm an (.ref cda) ct cc ∧
    K.lookup f = some ⟨oc, od, .func fd, osl⟩ ∧ PySem.W.codeIn K (.ref cda) x_qual = true ∧
    (∃ (ccl : Value) (cdd : Option Addr) (cvs : Array Value) (ccs : Array (Option Value)) (file : Str) (tf : Tok), K.lookup cda = some ⟨ccl, cdd, .fields cvs, ccs⟩ ∧ cvs[2]? = some (.str file tf) ∧ ((P.main.file : Str) == file) = true) ∧
    (∃ (cl : Value) (cld : Option Addr) (csl : Array (Option Value)), K.lookup cc = some ⟨cl, cld, .cell (some (.ref C)), csl⟩)
  top : (P.main.scope.names.lookup ("super" : Str)).isSome = false
def spXi (C : Addr) (fld : Str) : Sp := fun vs H Q _ => ∃ (a : Addr) (y : V), vs = [.ref a, y] ∧ H a = some (exo a C none) ∧ ∀ dx, H dx = none → dx ≠ a → Q .non (upd (upd H dx (exd dx [(fld, y)])) a (exo a C (some dx)))
section
variable {P : Program} {w : World} {K : PySem.W.Frag} {mg : Str → Option Value} {base : Heap} {f C : Addr} {fd : FuncData}
theorem ok_xi (sm : mg "super" = none) (T : Xi P K C f fd) : FnOk P w K mg base CX0 2 f fd ["self", x_par] (spXi C x_fld) := by
  refine ⟨fun vs H Q E h => ?_, fun A outer s H args us vs Q E hr e0 hb rv h => ?_⟩
  · obtain ⟨a, y, rfl, _⟩ := h
    rfl
  obtain ⟨a, y, rfl, ha, q⟩ := h
  obtain ⟨u0, u1, rfl, r0, r1⟩ := vals2 rv
  obtain rfl : u0 = Value.ref a := r0
  obtain ⟨kV, doc, pm, ct, oc, an, od, osl, cc, cda, rfl, lk, hcd, ⟨ccl, cdd, cvs, ccs, file, tf, hcode, hvs, hfile⟩, ⟨cl, cld, csl, hcell⟩⟩ := T.fn
  have KX : K.In s.heap := e0.mod.kin.keeps fun b o e => (e0.bs b o e).1
  have lim : s.heap.NoLimit := e0.mod.nolimit.keeps fun b o e => (e0.bs b o e).1
  obtain ⟨t1, ho⟩ := exo_at e0.hok ha
  refine PySem.ks_codeAny_call_defAt (body := defBody s_xi) (binds := [("self", .ref a), (x_par, u1)]) hr.depth (KX _ _ lk) rfl lim (PySem.W.codeRec_of KX hcd) rfl hb (show ∀ x ∈ (defScope s_xi).names, x.2 ≠ .cell by decide +kernel) (fun x hx => ?_) (fun h1 ns1 kp1 => ?_) rfl rfl rfl
  · rcases List.mem_cons.mp hx with rfl | hx
    · rfl
    · rcases List.mem_cons.mp hx with rfl | hx
      rfl
      nomatch hx
  have KX1 : K.In h1 := fun b o e => kp1 b o (KX b o e)
  refine PySem.ks_wpAt_execs_cons (PySem.ks_wpAt_Expr_any (PySem.ks_wpAt_MethodCall ?_))
  obtain ⟨nm, qn, NN, bs, bm, sn, sub, ab, col, dd, m0, m1, m2, m3, m5, hC, hbm⟩ := T.oex.cls
  have hcl : PySem.W.clsIn K C = some { name := nm, bases := bs, mro := .ref C :: bm, ns := NN, qualname := qn, hasDict := true, slotNames := sn, subclasses := sub, abstract := ab, collection := col, hasDel := false } := by
    unfold PySem.W.clsIn
    rw [hC]
  have keepB : ∀ b o, base.get? b = some o → h1.get? b = some o := fun b o e => kp1 b o (e0.bs b o e).1
  have ms : (fun x => ([("self", Value.ref a), (x_par, u1)] : List (Str × Value)).reverse.lookup x) ("self" : Str) = some (.ref a) := rfl
  have mp : (fun x => ([("self", Value.ref a), (x_par, u1)] : List (Str × Value)).reverse.lookup x) x_par = some u1 := rfl
  have ho1 := kp1 _ _ ho
  obtain ⟨mb, hmb, hbb⟩ := e0.mod.blt
  refine PySem.ks_wpAt_super_base (f := f) (cc := cda) rfl rfl (by decide +kernel) rfl (KX1 _ _ lk) rfl rfl rfl (KX1 _ _ hcode) rfl hvs hfile T.top ?_
  refine PySem.W.ks_loadName_global rfl rfl (Calls.loadGlobal_builtin (e0.mod.glob.keeps keepB) sm (hmb.keeps keepB) ((hbb _ (by decide)).trans PyProof.Rows.Boot.«super») ⟨rfl, ?_⟩)
  refine PySem.wpAny_loadName_free rfl rfl rfl ⟨_, KX1 _ _ hcell, rfl⟩ ?_
  refine PySem.wpAny_loadName_local rfl rfl ns1 ms ?_
  refine PySem.ks_wpAny_isType_cls (KX1 _ _ hC) rfl ⟨rfl, ?_⟩
  refine PySem.ks_wpAny_call_super (KX1 _ _ hC) rfl ho1 rfl (fun c z => by cases z) (PySem.W.looks_mroIn KX1 T.own) (fun h2 e2 kp2 => ?_)
  have KX2 : K.In h2 := fun b o e => kp2 b o (KX1 b o e)
  have hx2 := kp2 _ _ ho1
  have I2 : PySem.W.InstAt h2 a ({ cls := .ref C, data := .fields #[.ref t1, .none, .none, .none, .bool false, .none] } : Obj) C none := ⟨hx2, rfl, rfl, trivial⟩
  have hsup : PySem.W.alongIn K "__init__" (((Value.ref C :: bm).dropWhile (· != .ref C)).drop 1) = some (some (.builtin "ValueError.__init__")) := by
    have z := T.sup
    unfold PySem.W.ks_superIn at z
    rw [hcl] at z
    exact z
  refine PySem.W.kxs_getMethod PySem.W.kxs_ValueError e2 (PySem.W.looks_opaque KX2 T.opq) (fun A Q E s k q => wpAny_bind ((PySem.W.looks_clsIn KX2 hcl) A _ E s k (wpAny_pure q))) rfl KX2 hsup (I2.type.andThen (PySem.W.looks_subIn KX2 T.sub)) (PySem.W.ks_ne KX2 I2 hcl) (by decide +kernel) ?_
  refine PySem.W.kxs_callWith (i := "ValueError.__init__") (x := a) rfl ?_
  refine Calls.evalArgs_plain ?_
  refine Calls.spliced_cons ?_
  rw [if_neg Bool.false_ne_true]
  refine Calls.Constant_str (Calls.spliced_nil ⟨Heap.get?_push_at rfl rfl, ?_⟩)
  obtain ⟨u, hu⟩ : ∃ u, u = h2.objs.size := ⟨_, rfl⟩
  rw [← hu]
  have hsz : h1.objs.size ≤ h2.objs.size := Nat.le_of_lt (Heap.lt_size e2)
  obtain ⟨h3, hh3⟩ : ∃ h3, h3 = h2.push (PySem.W.kxs_mw "ValueError.__init__" a) := ⟨_, rfl⟩
  have kp3 : ∀ b o, h2.get? b = some o → h3.get? b = some o := fun b o e => hh3 ▸ Heap.get?_push_of_some _ e
  have eu : h3.get? u = some (PySem.W.kxs_mw "ValueError.__init__" a) := by
    rw [hh3, hu]
    exact Heap.get?_push_at rfl rfl
  have eu' : u = h2.objs.size := hu
  rw [← hh3]
  have up3 : ∀ b o, s.heap.get? b = some o → h3.get? b = some o := fun b o e => kp3 b o (kp2 b o (kp1 b o e))
  have hs1 : s.heap.objs.size < h1.objs.size := by
    obtain ⟨on, _, _, en, _⟩ := ns1
    exact Heap.lt_size en
  have alt : a < s.heap.objs.size := Heap.lt_size ho
  have ula : u ≠ a := by
    rw [hu]
    exact Nat.ne_of_gt (Nat.lt_of_lt_of_le alt (Nat.le_trans (Nat.le_of_lt hs1) hsz))
  have ulL : u ≠ s.heap.objs.size := by
    rw [hu]
    exact Nat.ne_of_gt (Nat.lt_of_lt_of_le hs1 hsz)
  have Ka : K.lookup a = none := by
    cases z : K.lookup a with
    | none => rfl
    | some o =>
      have z1 := (e0.bs a o (e0.mod.kin a o z)).2
      rw [ha] at z1
      cases z1
  have X0 : K.In (PySem.W.hideAll s.heap [a]) := fun b o e => PySem.W.hideAll_get [a] (KX b o e) fun z => by
    rw [List.mem_singleton] at z
    rw [z, Ka] at e
    cases e
  have F3 : PyProof.Rows.Fr (PySem.W.hideAll s.heap [a]) s.heap.objs.size h3 (fun x => ([("self", Value.ref a), (x_par, u1)] : List (Str × Value)).reverse.lookup x) :=
    ⟨ns1.keeps fun b o e => kp3 b o (kp2 b o e), fun b o e => up3 b o (PySem.W.of_hideAll _ e), Nat.le_of_eq (PySem.W.hideAll_size _ _)⟩
  have N3 : PyProof.Rows.News (PySem.W.hideAll s.heap [a]) s.heap.objs.size h3 [(u, PySem.W.kxs_mw "ValueError.__init__" a), (a, PySem.W.excObj C t1 none .none)] := by
    intro p hp
    rcases List.mem_cons.mp hp with rfl | hp
    · refine ⟨eu, ulL, ?_⟩
      cases z : (PySem.W.hideAll s.heap [a]).get? u with
      | none => rfl
      | some o =>
        have z1 := Heap.lt_size (PySem.W.of_hideAll [a] z)
        exact absurd z1 (Nat.not_lt.mpr (by rw [hu]; exact Nat.le_trans (Nat.le_of_lt hs1) hsz))
    · rcases List.mem_cons.mp hp with rfl | hp
      · exact ⟨up3 _ _ ho, Nat.ne_of_lt alt, PySem.W.hideAll_none [a] (List.mem_singleton.mpr rfl)⟩
      · cases hp
  refine PySem.W.kxs_call F3 X0 N3 PySem.F.excBase_ValueError T.ini (List.mem_cons_self) (.tail ula (.head fun p hp => nomatch hp)) (by show 1 ≤ sizeLine; decide) (fun t4 h4 F4 N4 _ => ?_)
  have hx4 : h4.get? a = some (PySem.W.excObj C t4 none .none) := (N4 (a, PySem.W.excObj C t4 none .none) (by simp)).1
  have up4 : ∀ b o, b ≠ a → s.heap.get? b = some o → h4.get? b = some o := fun b o n e => F4.keep b o (PySem.W.hideAll_get [a] e fun z => n (List.mem_singleton.mp z))
  have KX4 : K.In h4 := X0.keeps F4.keep
  have ns4 := F4.ns
  refine PySem.ks_wpAt_execs_cons (PySem.ks_wpAt_Assign_Attr ?_)
  refine wpAt_of_wpAny (wpAny_Name (PySem.wpAny_loadName_local rfl rfl ns4 mp ?_) (by decide))
  refine wpAny_Name (PySem.wpAny_loadName_local rfl rfl ns4 ms ?_) (by decide)
  refine PySem.W.set_plain KX4 (ox := PySem.W.excObj C t4 none .none) (od := none) ⟨hx4, rfl, rfl, trivial⟩ T.oex.sa ?_
  refine PySem.HandSPX.exc_osa KX4 hx4 hcl (show PySem.HandSPX.refsVE (.ref C :: bm) = true from hbm) rfl T.nof (fun h5 tk5 dx kp5 dn dne hx5 ns5 => ?_)
  have L4 : s.heap.objs.size < h4.objs.size := by
    obtain ⟨on, _, _, en, _⟩ := ns4
    exact Heap.lt_size en
  have hnd : H dx = none := e0.hok.fresh (Nat.le_trans (Nat.le_of_lt L4) dn)
  have up5 : ∀ b o, b ≠ a → s.heap.get? b = some o → h5.get? b = some o := fun b o n e => kp5 b o n (up4 b o n e)
  have bdx : ∀ {b o}, s.heap.get? b = some o → b ≠ dx := fun {b o} e => Nat.ne_of_lt (Nat.lt_of_lt_of_le (Heap.lt_size e) (Nat.le_trans (Nat.le_of_lt L4) dn))
  have nota : ∀ {b}, H b = none → b ≠ a := fun {b} n z => by
    rw [z, ha] at n
    cases n
  refine wpAt_of_wpAny (wpAny_execs_nil ?_)
  have un : Un (frs outer) [] H (upd (upd H dx (exd dx [(x_fld, y)])) a (exo a C (some dx))) s.heap h5 := by
    constructor
    · exact fun b o e n _ _ => up5 b o (nota n) e
    · exact fun b o e n _ _ => ⟨o.slots, up5 b o (nota n) e⟩
    · intro b o e n _
      rw [upd_ne (nota n), upd_ne (bdx e)]
      exact n
    · intro b o e _
      by_cases z : b = a
      · exact ⟨_, z ▸ hx5⟩
      · exact ⟨o, up5 b o z e⟩
    · intro b xs e
      rw [upd_ne (at_ne ha e exo_tup), upd_ne (ne_of_none e hnd)]
      exact e
    · intro b o v e
      rw [upd_ne (at_ne ha e exo_frz), upd_ne (ne_of_none e hnd)]
      exact e
    · intro b ps e
      refine ⟨#[], ?_⟩
      rw [upd_ne (at_ne ha e exo_tbl), upd_ne (ne_of_none e hnd), e]
      simp
  have ok : HOk P w (upd (upd H dx (exd dx [(x_fld, y)])) a (exo a C (some dx))) h5 := by
    intro b v e
    by_cases z : b = a
    · subst z
      rw [upd_same] at e
      obtain rfl := Option.some.inj e
      exact exo_ok hx5
    · rw [upd_ne z] at e
      by_cases z2 : b = dx
      · subst z2
        rw [upd_same] at e
        obtain rfl := Option.some.inj e
        exact exd_ok ns5 (relO_put (fs := []) r1 fun g => True.intro)
      · rw [upd_ne z2] at e
        refine (e0.hok b v e).stay (fun c o hc g => up5 c o ?_ g) (fun c hc => ?_) (fun c xs hc => ?_)
        · rcases hc with hc | hc
          · exact hc ▸ z
          · exact at_ne ha hc exo_own
        · rw [upd_ne (at_ne ha hc exo_own), upd_ne (ne_of_none hc hnd)]
          exact hc
        · rw [upd_ne (at_ne ha hc exo_tup), upd_ne (ne_of_none hc hnd)]
          exact hc
  exact ⟨.non, _, rfl, e0.bare, un, ok, rfl, q dx hnd dne⟩
end
end W2

namespace W2
open PySem PySem.Spec PyProof.Rows L2 Pg Pf Rul Tab
/-- the class Way as the top has made it -/
structure Wt (K : PySem.W.Frag) (mg : Str → Option Value) (C : Addr) : Prop where
  cl : Cls K C
  nR : NoAttr K C "_rights"
  nL : NoAttr K C "_lefts"
  nP : NoAttr K C "_places"
  nT : NoAttr K C "_table"
  mgC : mg "Way" = some (.ref C)
  rd : ∃ mc t6 t12, ClX.CRead K C mc ∧ ClX.CVal K C mc "MAX_WALKERS" (.int 6) (.int 6 t6) ∧ ClX.CVal K C mc "MAX_PLACES" (.int 12) (.int 12 t12)
theorem nrl : ¬ (("_rights" : Str) = "_lefts") := by decide +kernel
theorem nrp : ¬ (("_rights" : Str) = "_places") := by decide +kernel
theorem nrt : ¬ (("_rights" : Str) = "_table") := by decide +kernel
theorem nlp : ¬ (("_lefts" : Str) = "_places") := by decide +kernel
theorem nlt : ¬ (("_lefts" : Str) = "_table") := by decide +kernel
theorem npt : ¬ (("_places" : Str) = "_table") := by decide +kernel
/-- its attributes, in the order in which they are stored -/
def wf (r l k : V) (t : V) : List (Str × V) := putF "_table" t (putF "_places" k (putF "_lefts" l (putF "_rights" r [])))
theorem wf_eq (r l k t : V) : wf r l k t = ([("_rights", r), ("_lefts", l), ("_places", k), ("_table", t)] : List (Str × V)) := by
  unfold wf
  simp only [putF, if_neg nrl, if_neg nrp, if_neg nrt, if_neg nlp, if_neg nlt, if_neg npt]
theorem wf_r (r l k t : V) : (wf r l k t).lookup ("_rights" : Str) = some r := by
  unfold wf
  rw [lookup_putF, if_neg nrt, lookup_putF, if_neg nrp, lookup_putF, if_neg nrl, lookup_putF, if_pos rfl]
theorem wf_l (r l k t : V) : (wf r l k t).lookup ("_lefts" : Str) = some l := by
  unfold wf
  rw [lookup_putF, if_neg nlt, lookup_putF, if_neg nlp, lookup_putF, if_pos rfl]
theorem wf_k (r l k t : V) : (wf r l k t).lookup ("_places" : Str) = some k := by
  unfold wf
  rw [lookup_putF, if_neg npt, lookup_putF, if_pos rfl]
theorem wf_t (r l k t : V) : (wf r l k t).lookup ("_table" : Str) = some t := by
  unfold wf
  rw [lookup_putF, if_pos rfl]
theorem wf_no (r l k t : V) {m : Str} (h1 : ¬ m = "_table") (h2 : ¬ m = "_places") (h3 : ¬ m = "_lefts") (h4 : ¬ m = "_rights") : (wf r l k t).lookup m = none := by
  unfold wf
  rw [lookup_putF, if_neg h1, lookup_putF, if_neg h2, lookup_putF, if_neg h3, lookup_putF, if_neg h4]
  rfl
theorem wf_put (r l k t t' : V) : putF "_table" t' (wf r l k t) = wf r l k t' := by
  rw [wf_eq, wf_eq]
  simp only [putF, if_neg nrt, if_neg nlt, if_neg npt, if_pos]
/-- a way stands at a: its numbers, its allowed places -/
structure WayAt (K : PySem.W.Frag) (C : Addr) (G : Hp) (a : Addr) (r l k : Nat) (c : Nat → Nat → List Int) : Prop where
  ob : ∃ dx t, G a = some (.ins C dx (wf (.int (r : Nat)) (.int (l : Nat)) (.int (k : Nat)) (.ref t))) ∧ Dp K G (.ref t) (tabT (tabF r l c))
  r1 : 1 ≤ r
  r2 : r ≤ 6
  l1 : 1 ≤ l
  l2 : l ≤ 6
  k1 : 1 ≤ k
  k2 : k ≤ 12
  ok : ∀ i j, i < r → j < l → Cell (k : Int) (c i j)
theorem WayAt.mono {K : PySem.W.Frag} {C : Addr} {G G' : Hp} {a : Addr} {r l k : Nat} {c : Nat → Nat → List Int} (W : WayAt K C G a r l k c) (e : Same G G') : WayAt K C G' a r l k c :=
  ⟨let ⟨dx, t, h, d⟩ := W.ob; ⟨dx, t, e _ _ h, Dp.mono e _ _ d⟩, W.r1, W.r2, W.l1, W.l2, W.k1, W.k2, W.ok⟩
theorem rep_one {α : Type} (n : Nat) (x : α) : (List.replicate n [x]).flatten = List.replicate n x := by
  induction n with
  | zero => rfl
  | succ n ih =>
    rw [List.replicate_succ, List.flatten_cons, ih]
    rfl
theorem DpAll.rep {K : PySem.W.Frag} {H : Hp} {v : V} {d : PyData} (h : Dp K H v d) : ∀ n, DpAll K H (List.replicate n v) (List.replicate n d)
  | 0 => .nil
  | n + 1 => .cons h (DpAll.rep h n)
theorem map_range_rep {α : Type} (n : Nat) (x : α) : (List.range n).map (fun _ => x) = List.replicate n x := by
  apply List.ext_getElem?
  intro i
  rw [List.getElem?_map, List.getElem?_replicate]
  by_cases h : i < n
  · rw [List.getElem?_range h, if_pos h]
    rfl
  · rw [if_neg h, List.getElem?_eq_none_iff.mpr (by rw [List.length_range]; omega)]
    rfl
end W2

namespace W2
open PySem PySem.Spec PyProof.Rows L2 Pg Pf Rul Tab
theorem vk_int {K : PySem.W.Frag} {G : Hp} {x : V} {i : Int} (h : Vk K G x (some i)) : x = .int i := by
  cases h
  rfl
theorem inO_nat {o : Option Int} {hi : Int} (h : inO o 1 hi = true) : ∃ r : Nat, o = some (r : Int) ∧ 1 ≤ r ∧ (r : Int) ≤ hi := by
  cases o with
  | none => cases h
  | some i =>
    have h' : (decide (1 ≤ i) && decide (i ≤ hi)) = true := h
    rw [Bool.and_eq_true, decide_eq_true_eq, decide_eq_true_eq] at h'
    refine ⟨i.toNat, ?_, by omega, by omega⟩
    congr 1
    omega
theorem part_non {a b c : Option Int} (h : partO a b c = .non) : ∃ r l k : Nat, a = some (r : Int) ∧ b = some (l : Int) ∧ c = some (k : Int) ∧ 1 ≤ r ∧ r ≤ 6 ∧ 1 ≤ l ∧ l ≤ 6 ∧ 1 ≤ k ∧ k ≤ 12 := by
  unfold partO at h
  cases e1 : inO a 1 6 with
  | false =>
    rw [e1, if_pos rfl] at h
    cases h
  | true =>
    rw [e1, if_neg (by decide)] at h
    cases e2 : inO b 1 6 with
    | false =>
      rw [e2, if_pos rfl] at h
      cases h
    | true =>
      rw [e2, if_neg (by decide)] at h
      cases e3 : inO c 1 12 with
      | false =>
        rw [e3, if_pos rfl] at h
        cases h
      | true =>
        obtain ⟨r, hr, r1, r2⟩ := inO_nat e1
        obtain ⟨l, hl, l1, l2⟩ := inO_nat e2
        obtain ⟨k, hk, k1, k2⟩ := inO_nat e3
        exact ⟨r, l, k, hr, hl, hk, r1, by omega, l1, by omega, k1, by omega⟩
theorem part_str (a b c : Option Int) : partO a b c = .non ∨ ∃ p : Str, partO a b c = .str p := by
  unfold partO
  split
  · exact .inr ⟨_, rfl⟩
  · split
    · exact .inr ⟨_, rfl⟩
    · split
      · exact .inr ⟨_, rfl⟩
      · exact .inl rfl
/-- what a new exception's making leaves of the heap: its dict -/
theorem xd_heap {H : Hp} {a d : Addr} {C : Addr} {fs : List (Str × V)} (ha : H a = none) (hd : d ≠ a) : upd (del (upd (upd (upd H a (exo a C none)) d (exd d fs)) a (exo a C (some d))) a) d (.xd fs) = upd H d (.xd fs) := by
  funext b
  by_cases z : b = d
  · rw [z, upd_same, upd_same]
  · rw [upd_ne z, upd_ne z]
    by_cases z2 : b = a
    · rw [z2, del_same, ha]
    · rw [del_ne z2, upd_ne z2, upd_ne z, upd_ne z2]
abbrev s_Way_init : Stmt := inClass (top 10) 2
abbrev N_Way_init : List Str := ["self", "rights", "lefts", "places", "part"]
theorem sc_Way_init : FnScope N_Way_init ["self", "rights", "lefts", "places"] (defScope s_Way_init) := ⟨rfl, rfl, rfl, by decide +kernel, rfl, by decide +kernel, by decide +kernel⟩
/-- the error class: its def of __init__ stands at fI -/
structure Xc (P : Program) (w : World) (K : PySem.W.Frag) (mg : Str → Option Value) (base : Heap) (CE : Addr) : Prop where
  oex : OexC K CE
  gl : mg "InvalidWay" = some (.ref CE)
  ex : ∃ (fI : Addr) (fd : FuncData), PySem.W.findIn K (.ref CE) "__init__" = some (some (.ref fI)) ∧ PySem.W.typeIn K (.ref fI) = some (.type "function") ∧ FnOk P w K mg base CX0 2 fI fd ["self", x_par] (spXi CE x_fld) ∧ Binds K fd ["self", x_par] []
/-- __init__ of a way from any values -/
def spInitX (K : PySem.W.Frag) (C CE : Addr) : Sp := fun vs H Q E => ∃ (G : Hp) (a dx : Addr) (x y z : V) (o1 o2 o3 : Option Int), vs = [.ref a, x, y, z] ∧ Same G H ∧ G a = none ∧ H a = some (.ins C dx []) ∧ Vk K G x o1 ∧ Vk K G y o2 ∧ Vk K G z o3 ∧
  (∀ r l k : Nat, o1 = some (r : Int) → o2 = some (l : Int) → o3 = some (k : Int) → 1 ≤ r → r ≤ 6 → 1 ≤ l → l ≤ 6 → 1 ≤ k → k ≤ 12 → ∀ (t : Addr) (G' H' : Hp), Same G G' → Same G' H' → (∀ p o, H p = some o → p ≠ a → H' p = some o) → (∀ p, G' p ≠ none → G p ≠ none ∨ H p = none) → G' a = none →
    H' a = some (.ins C dx (wf (.int (r : Nat)) (.int (l : Nat)) (.int (k : Nat)) (.ref t))) → Dp K G' (.ref t) (tabT (tabF r l fun _ _ => rangeI k)) → Q .non H') ∧
  (∀ p : Str, partO o1 o2 o3 = .str p → ∀ d, H d = none → E (.ref CE) (some d) (upd H d (.xd [(x_fld, .str p)])))
section
variable {P : Program} {w : World} {K : PySem.W.Frag} {mg : Str → Option Value} {base : Heap} {f C CE : Addr} {fd : FuncData}
theorem ok_init (B : Bt mg) (T : Wt K mg C) (cX : Xc P w K mg base CE) (cW : CalO P w K mg base 3 "wrong_part" (spWrongD K)) (F : Fun K "__init__" "Way.__init__" s_Way_init f fd) : FnOk P w K mg base (L2.CX P w) 4 f fd ["self", "rights", "lefts", "places"] (spInitX K C CE) := by
  obtain ⟨fI, fdI, i1, i2, okI, bI⟩ := cX.ex
  refine F.okX sc_Way_init (fun vs H Q E h => ?_) (fun cdv A outer s H vs Q E hr h => ?_)
  · obtain ⟨G, a, dx, x, y, z, o1, o2, o3, rfl, _⟩ := h
    rfl
  · obtain ⟨G, a, dx, x, y, z, o1, o2, o3, rfl, sG, ga, ha, hx, hy, hz, good, bad⟩ := h
    have nd := sc_Way_init.nd
    refine ⟨_, (pss_cons (ps_set (i := 4) nd rfl (Or.inl rfl) (pe_cO cW hr (by decide) rfl (pa_cons (pv 1) (pa_cons (pv 2) (pa_cons (pv 3) pa_nil)))))
    (pss_cons (ps_if (pt_cmpR op_notN (pv 4) pe_non (nomark _)) (pss_one (ps_raise rfl (takes_of rfl rfl rfl rfl) (pmk_oex cX.oex i1 i2 okI (hr.mono (by decide)) bI .nil pass0 rfl cX.gl (pa_cons (pv 4) pa_nil)))) pss_nil)
    (pss_cons (ps_fld (pv 0) (pv 1) rfl)
    (pss_cons (ps_fld (pv 0) (pv 2) rfl)
    (pss_cons (ps_fld (pv 0) (pv 3) rfl)
    (pss_one (ps_fld (pv 0) (pe_op op_repA (pe_tup (pa_cons (pe_op op_repA (pe_tup (pa_cons (pe_tupRg rfl (by rfl) B.tuple (prg_1 (by rfl) B.range (pv 3))) pa_nil)) (pv 2)) pa_nil)) (pv 1)) rfl))))))), ?_⟩
    refine ⟨_, rfl, _, rfl, _, rfl, G, x, y, z, o1, o2, o3, rfl, sG, hx, hy, hz, ?_⟩
    rcases part_str o1 o2 o3 with e | ⟨p, e⟩
    · obtain ⟨r, l, k, rfl, rfl, rfl, r1, r2, l1, l2, k1, k2⟩ := part_non e
      obtain rfl := vk_int hx
      obtain rfl := vk_int hy
      obtain rfl := vk_int hz
      have q := good r l k rfl rfl rfl r1 r2 l1 l2 k1 k2
      rw [e]
      refine ⟨_, rfl, rfl, _, rfl, ?_⟩
      refine iteF ?_
      refine ⟨_, rfl, _, rfl, a, C, dx, _, rfl, ha, T.cl, T.nR, (by show 0 < 1000; decide), ?_⟩
      refine ⟨_, rfl, _, rfl, a, C, dx, _, rfl, upd_same, T.cl, T.nL, (by show 1 < 1000; decide), ?_⟩
      refine ⟨_, rfl, _, rfl, a, C, dx, _, rfl, upd_same, T.cl, T.nP, (by simp only [putF, if_neg nrl]; show 2 < 1000; decide), ?_⟩
      rw [upd_upd, upd_upd]
      have hn : ∀ p, (upd H a (.ins C dx (putF "_places" (.int (k : Nat)) (putF "_lefts" (.int (l : Nat)) (putF "_rights" (.int (r : Nat)) []))))) p = none → H p = none := fun p e => by
        by_cases z : p = a
        · rw [z, upd_same] at e
          cases e
        · rw [upd_ne z] at e
          exact e
      have hk : ∀ p o, H p = some o → p ≠ a → (upd H a (.ins C dx (putF "_places" (.int (k : Nat)) (putF "_lefts" (.int (l : Nat)) (putF "_rights" (.int (r : Nat)) []))))) p = some o := fun p o e z => by rw [upd_ne z]; exact e
      have sG3 : Same G (upd H a (.ins C dx (putF "_places" (.int (k : Nat)) (putF "_lefts" (.int (l : Nat)) (putF "_rights" (.int (r : Nat)) []))))) := Fut.mut sG ga
      have ha3 : (upd H a (.ins C dx (putF "_places" (.int (k : Nat)) (putF "_lefts" (.int (l : Nat)) (putF "_rights" (.int (r : Nat)) []))))) a = some (.ins C dx (putF "_places" (.int (k : Nat)) (putF "_lefts" (.int (l : Nat)) (putF "_rights" (.int (r : Nat)) [])))) := upd_same
      generalize (upd H a (.ins C dx (putF "_places" (.int (k : Nat)) (putF "_lefts" (.int (l : Nat)) (putF "_rights" (.int (r : Nat)) []))))) = H3 at hn hk sG3 ha3 ⊢
      refine ⟨_, rfl, _, rfl, RgOk.of_le (by decide) (by omega) (by decide) (by omega), fun t1 n1 => ?_⟩
      rw [rangeI_V]
      have f1 := Fut.new (o := .tup ((rangeI (k : Nat)).map V.int)) sG3 n1
      have d1 : Dp K (upd G t1 (.tup ((rangeI (k : Nat)).map V.int))) (.ref t1) (cellD (rangeI (k : Nat))) := dp_cell upd_same
      refine ⟨(by show 1 ≤ sizeLine; decide), fun t2 n2 => ⟨_, rfl, ?_⟩⟩
      have f2 := Fut.new (o := .tup [.ref t1]) f1.s n2
      refine repA f2.s (Evl.st_of upd_same) (by simp) (by omega) (by omega) (by show 1 ≤ 1000; decide) fun t3 G3 H5 f3 s3 => ?_
      rw [rep_one, show ((l : Nat) : Int).toNat = l by omega] at s3
      have d3 : Dp K G3 (.ref t3) (rowT (List.replicate l (rangeI (k : Nat)))) := by
        unfold rowT
        rw [List.map_replicate]
        exact .tup s3 (DpAll.rep (Dp.mono (f2.g.trans f3.g) _ _ d1) l)
      refine ⟨(by show 1 ≤ sizeLine; decide), fun t4 n4 => ⟨_, rfl, ?_⟩⟩
      have f4 := Fut.new (o := .tup [.ref t3]) f3.s n4
      refine repA f4.s (Evl.st_of upd_same) (by simp) (by omega) (by omega) (by show 1 ≤ 1000; decide) fun t5 G5 H6 f5 s5 => ?_
      rw [rep_one, show ((r : Nat) : Int).toNat = r by omega] at s5
      have d5 : Dp K G5 (.ref t5) (tabT (tabF r l fun _ _ => rangeI (k : Nat))) := by
        unfold tabF
        rw [map_range_rep, map_range_rep]
        unfold tabT
        rw [List.map_replicate]
        exact .tup s5 (DpAll.rep (Dp.mono (f4.g.trans f5.g) _ _ d3) r)
      have fA := (((f1.trans f2).trans f3).trans f4).trans f5
      have gA : G5 a = none := by
        cases e : G5 a with
        | none => rfl
        | some o =>
          rcases fA.n a (by rw [e]; simp) with z | z
          · exact absurd ga z
          · rw [ha3] at z
            cases z
      refine ⟨_, rfl, a, C, dx, _, rfl, fA.h _ _ ha3, T.cl, T.nT, (by simp only [putF, if_neg nrl, if_neg nrp, if_neg nlp]; show 3 < 1000; decide), ?_⟩
      exact q t5 G5 _ fA.g (Fut.mut fA.s gA) (fun p o e z => by rw [upd_ne z]; exact fA.h _ _ (hk p o e z)) (fun p e => (fA.n p e).imp id (hn p)) gA upd_same d5
    · rw [e]
      refine ⟨_, rfl, rfl, _, rfl, ?_⟩
      refine iteT ?_
      refine ⟨_, rfl, (by show 1 ≤ 1000; decide), fun a1 n1 => ?_⟩
      refine ⟨a1, .str p, rfl, upd_same, fun d nd nda => ⟨rfl, d, [(x_fld, .str p)], upd_same, ?_, ?_, ?_⟩⟩
      · rw [upd_ne nda]
        exact upd_same
      · rw [upd_ne nda] at nd
        exact nd
      · rw [xd_heap n1 nda]
        rw [upd_ne nda] at nd
        exact bad p e d nd
end
end W2

namespace W2
open PySem PySem.Spec PyProof.Rows L2 Pg Pf
/-- a static method m of the class at C: its record at p, its def at g -/
structure Sm (P : Program) (w : World) (K : PySem.W.Frag) (mg : Str → Option Value) (base : Heap) (k : Nat) (C : Addr) (m : Str) (sp : Sp) : Prop where
  ex : ∃ (p g : Addr) (fd : FuncData) (ps : List Str) (mc : Value) (rest : List Value), ClX.CRead K C mc ∧ PySem.W.findCls K (.ref C) mc m = some (.get (.builtin "staticmethod.__get__") (.ref p) .none (.ref C)) ∧ PySem.W.recIn K p "staticmethod" = some (.ref g :: rest) ∧
    PySem.W.keepIn K (.ref g) = true ∧ FnOk P w K mg base CX0 k g fd ps sp ∧ Binds K fd ps [] ∧
    Cls K C ∧ PySem.W.isClsIn K C = true ∧ PySem.W.findIn K (.ref C) m = some (some (.ref p)) ∧ PySem.W.typeIn K (.ref p) = some (.type "staticmethod") ∧ PySem.W.specialIn K (.ref p) "__get__" = some (some (.builtin "staticmethod.__get__")) ∧ PySem.W.takesIn K (.ref p) = some false ∧ PySem.W.copiedNames.contains m = false
def tSm (C : Addr) (m : Str) (sp : Sp) (ta : TE) (t : TA) : TE := fun σ H Q => ta σ H fun x H1 => (x = .ref C ∨ ∃ a dx fs, x = .ref a ∧ H1 a = some (.ins C dx fs) ∧ fs.lookup m = none) ∧ t σ H1 fun vs H2 => sp vs H2 Q E0
section
variable {X : Cx} {k j : Nat} {C : Addr} {m : Str} {sp : Sp} {pos apos : Pos} {o e : Expr} {es : List Expr} {ta : TE} {t : TA}
theorem pe_sm {pl : Sem Bool} (c : Sm X.prog X.w X.K X.mg X.base k C m sp) (hr : Room j X.A) (hk : k ≤ j) (ho : PE X o ta) (ha : PA X (e :: es) t)
    (he : starEach (e :: es) X.env = (false, eval e X.env) :: starEach es X.env := by rfl) (hpl : (backTo pos (starEach es X.env)).any (·.1) = false := by rfl)
    (ht : eval (.Call (.Attribute o m apos) (e :: es) [] pos) X.env = (do
      let ov ← eval o X.env
      standAt apos.atName
      let (f, first) ← holding [ov] (getMethod ov m pl)
      callWith pos f first (backTo pos (starEach (e :: es) X.env)) (backToKw pos (keywordEach [] X.env))) := by rfl) :
    PE X (.Call (.Attribute o m apos) (e :: es) [] pos) (tSm C m sp ta t) := by
  obtain ⟨p, g, fd, ps, mc, rest, rd, at_, rc, kp, F, b, cl, ic, fi, ty, gt, tk, cp⟩ := c.ex
  refine ⟨fun pins s σ H Q I h => ?_⟩
  refine PySem.W.methodCall_KW (pl := pl) (thn (ho.run pins s σ H _ I h) fun u s1 ⟨x, H1, I1, rx, hx, q⟩ => ?_) ht
  -- the def, however it was reached
  have go : ∀ s2, Inv X pins σ H1 s2 → wpAny (model X.prog X.w) X.A (callWith pos (.ref g) [] (backTo pos (starEach (e :: es) X.env)) []) (EP X pins σ Q) X.xe s2 := fun s2 I2 => by
    refine PySem.W.callWith_K (first := []) (h₀ := X.base) I2.ok.mod.kin kp (thn (ha.run pos pins s2 σ H1 _ I2 q) fun us s3 ⟨vs, H3, I3, rv, q3⟩ => ⟨I3.kIn, ?_⟩) he hpl
    have hl : us.length = ps.length := by
      rw [← rv.length]
      exact F.len _ _ _ _ q3
    have z := run_fn (ds := []) (dvs := []) (us := us) (vs := vs) (Q := Q) (E := E0) F (hr.mono hk) b .nil pass0 I3 rv (by rw [List.append_nil]; exact q3)
    exact z
  rcases hx with rfl | ⟨a, dx, fs, rfl, ea, lm⟩
  · obtain rfl : u = Value.ref C := rx
    exact PySem.W.method_cls I1.kIn rd.ga (PySem.W.cls_bind I1.kIn rd.rd at_ (wpAny_call (PySem.W.sm_get (s := { s1 with toks := s1.toks + 1 }) I1.kIn rc (PySem.W.handed_on rfl (go _ (I1.tok _))))))
  · obtain rfl : u = Value.ref a := rx
    obtain ⟨mA, O, rr, _, _, _⟩ := ins_get I1.hok ea
    have free : mA m = none := RelO.none_of (by rw [← lm]; exact rr m)
    obtain ⟨od, J, look⟩ := O.look
    have pg := PySem.W.plainGet_of (cl.get m)
    refine PySem.W.method_usual (r := some (.ref p)) I1.kIn J pg.1 pg.2 fi ?_ (PySem.W.get_bind I1.kIn J pg.1 (ClX.find_cm ic fi gt tk cp (by rw [look m, free])) pg.2 ?_)
    · show ((PySem.W.typeIn X.K (.ref p)).any fun y => y != .type "function" && y != .type "method_descriptor" && y != .type "wrapper_descriptor") = true
      rw [ty]
      decide +kernel
    · exact wpAny_call (PySem.W.sm_get (s := { s1 with toks := s1.toks + 1 }) I1.kIn rc (PySem.W.handed_on rfl (go _ (I1.tok _))))
end
end W2

namespace W2
open PySem PySem.Spec PyProof.Rows L2 Pg Pf
/-- an exception that was caught: its class, its dict -/
def XO (cls : Value) (d : Option Addr) (a : Addr) : HO := .ext fun h => ∃ (oe : Obj) (vs : Array Value), h.get? a = some oe ∧ Zc cls d oe ∧ oe.data = .fields vs
theorem xo_ok {P : Program} {w : World} {H : Hp} {h : Heap} {a : Addr} {cls : Value} {d : Option Addr} {oe : Obj} {vs : Array Value} (e : h.get? a = some oe) (z : Zc cls d oe) (f : oe.data = .fields vs) : ObjOk P w H h a (XO cls d a) :=
  ⟨⟨oe, vs, e, z, f⟩, ⟨oe, e⟩, fun _ _ ⟨o, v, q, r⟩ k => ⟨o, v, k o q, r⟩⟩
section
variable {X : Cx} {pins : List (Addr × Obj)} {σ : L2.St} {H : Hp} {s : Shared}
/-- an object that is not of the entry's heap is tracked from now on -/
theorem hold {a : Addr} {o : HO} (I : Inv X pins σ H s) (na : H a = none) (new : X.s_0.heap.get? a = none) (nL : a ≠ X.env.locals) (nC : ∀ x c, X.env.cells.lookup x = some c → c ≠ a) (nP : ∀ p ∈ X.pn ++ pins, p.1 ≠ a) (ok : ObjOk X.prog X.w (upd H a o) s.heap a o) : Inv X pins σ (upd H a o) s := by
  have off : ∀ {b : Addr}, b ≠ a → upd H a o b = H b := fun n => upd_ne n
  have old : ∀ {b : Addr} {u : HO}, H b = some u → upd H a o b = some u := fun {b u} e => by rw [off (ne_of_none e na)]; exact e
  refine { ok := I.ok, os := I.os, bare := I.bare, base := ?_, loc := I.loc, cell := I.cell, free := ?_, freeC := fun x c e => ?_, pin := fun p hp => ?_, hok := ?_, len := I.len }
  · have u := I.base
    refine { keep := u.keep, slot := u.slot, free := fun b v e n x => ?_, there := u.there, tups := fun b xs e => old (u.tups b xs e), frzs := fun b v y e => old (u.frzs b v y e), tbls := fun b ps e => ?_ }
    · rw [off fun z => by rw [z, new] at e; cases e]
      exact u.free b v e n x
    · obtain ⟨more, e2⟩ := u.tbls b ps e
      exact ⟨more, old e2⟩
  · rw [off nL.symm]
    exact I.free
  · rw [off (nC x c e)]
    exact I.freeC x c e
  · obtain ⟨q1, q2, q3⟩ := I.pin p hp
    refine ⟨q1, ?_, q3⟩
    rw [off (nP p hp)]
    exact q2
  · intro b v e
    by_cases z : b = a
    · subst z
      rw [upd_same] at e
      obtain rfl := Option.some.inj e
      exact ok
    · rw [off z] at e
      exact (I.hok b v e).stay (fun _ _ _ y => y) (fun c y => old y) fun c xs y => old y
/-- reading a field of such an exception -/
def tXo (C : Addr) (f : Str) (te : TE) : TE := fun σ H Q => te σ H fun x H1 => ∃ (a dd : Addr) (fs : List (Str × V)) (v : V), x = .ref a ∧ H1 a = some (XO (.ref C) (some dd) a) ∧ H1 dd = some (.xd fs) ∧ fs.lookup f = some v ∧ Q v H1
theorem pe_xo {C : Addr} {e : Expr} {te : TE} {pos : Pos} {n : Str} (T : XfC X.K C) (hno : PySem.W.findIn X.K (.ref C) n = some none) (he : PE X e te) (hb : attributeBase e n X.env (eval e X.env) = eval e X.env := by rfl) : PE X (.Attribute e n pos) (tXo C n te) := by
  refine ⟨fun pins s σ H Q I h => ?_⟩
  refine attr_of hb (thn (he.run pins s σ H _ I h) fun u s1 ⟨x, H1, I1, rx, a, dd, fs, v, ex, ea, ed, l, q⟩ => ?_)
  subst ex
  obtain rfl : u = Value.ref a := rx
  obtain ⟨⟨oe, vs, g, z, f⟩, _, _⟩ := (show ObjOk X.prog X.w H1 s1.heap a (XO (.ref C) (some dd) a) from I1.hok a _ ea)
  obtain ⟨mA, hns, rel⟩ := (show ObjOk X.prog X.w H1 s1.heap dd (.xd fs) from I1.hok dd _ ed)
  obtain ⟨od, ho, look⟩ := lookIn_ns hns
  obtain ⟨y, hy, ry⟩ := RelO.some_of (v := v) (o := mA n) (by rw [← l]; exact rel n)
  have inst : PySem.W.InstAt s1.heap a oe C (some od) := ⟨g, z.1, by unfold PySem.W.notCls; rw [f] <;> rfl, by rw [z.2]; exact ho⟩
  exact HandSPX.exc_get I1.kIn inst T.ga T.gg T.exC (PySem.W.findObj_own T.hdC hno rfl (by rw [look, hy])) (handed_of ry) ⟨v, H1, I1.tok _, ry, q⟩
end
end W2

namespace W2
open PySem PySem.Spec PyProof.Rows L2 Pg Pf
/-- except c as n, where nothing but c comes: the suite ts, with the exception tracked, also behind the suite; n stands at slot i and is gone then -/
def wKeep (K : PySem.W.Frag) (c : Value) (i : Nat) (ts : Addr → Value → Option Addr → TS) (D : Ends) : WX := fun cls d σ H => PySem.W.exmOne K cls c = some true ∧
  ∀ a, H a = none → ts a cls d { nx := fun σ' H' => D.nx (σ'.set i none) H', rt := D.rt, bk := fun σ' H' => D.bk (σ'.set i none) H', ct := fun σ' H' => D.ct (σ'.set i none) H' } (σ.set i (some (.ref a))) (upd H a (XO cls d a))
section
variable {X : Cx} {x n : Str} {c : Value} {i : Nat} {body suite : List Stmt} {b₀ : Stmt} {np pos pos' : Pos} {tb : WX → TS} {ts : Addr → Value → Option Addr → TS}
theorem ps_keep (hex : X.ex = []) (hs : X.stack = X.env :: X.outer) (hf : X.env.frame = some X.env.locals) (hN : X.N.Nodup) (hi : X.N[i]? = some n) (hln : X.env.kindOf n = some .local) (hc : Names X x c)
    (hb : ∀ (W : WX) (pn : List (Addr × Obj)) (xe : Value → Shared → Prop), Takes (X.tr pn xe) W → PassesOwn (model X.prog X.w) X.A X.env xe → PSs (X.tr pn xe) body (tb W))
    (hsu : ∀ (a : Addr) (cls : Value) (d : Option Addr) (pn : List (Addr × Obj)), PSs (X.suite a pn) (b₀ :: suite) (ts a cls d)) :
    PS X (.Try body [.ExceptHandler (some (.Name x np)) (some n) (b₀ :: suite) pos'] [] [] pos) (fun D σ H => tb (wKeep X.K c i ts D) D σ H) := by
  refine ⟨fun pins s σ H D I h => wpAny_Try_except ?_⟩
  have ok := I.ok
  have top : X.A.frames = some (X.env :: X.outer) := by rw [ok.frames, hs]
  have home : Loc X.env.scope n := .inl hln
  refine wpAny_mono ((hb (wKeep X.K c i ts D) (X.pn ++ pins) (fun e y1 => wpAny (model X.prog X.w) X.A (noteFrame e X.env) (fun _ y2 => wpAny (model X.prog X.w) X.A (setFlight e none) (fun _ y3 => wpAny (model X.prog X.w) X.A (handleBy e X.env [.ExceptHandler (some (.Name x np)) (some n) (b₀ :: suite) pos']) (SP X pins D) X.xe y3) X.xe y2) X.xe y1) (fun u z xx => ?_) PassesOwn.looking).run [] s σ H D (I.toTry _) h) (fun fl z q => ?_) (fun _ _ y => y)
  · obtain ⟨a, B, sI, pq, σ1, H1, cls, d, rfl, JJ, nb, up, sky, na, os, ag, hm, yes⟩ := xx
    have J : Inv X pins σ1 H1 sI := JJ.ofTry ok
    have sky1 : Sky B (X.env :: X.outer) a (Zc cls d) X.env.locals z.heap := by rw [← hs]; exact sky
    refine Sky.land Zc.steady top hf sky1 fun g3 fly3 up3 => ?_
    have J3 : Inv X pins σ1 H1 { z with heap := g3 } := J.landed nb fly3.1 (up.trans up3) os ag
    obtain ⟨o3, v3, at3, z3, f3⟩ := fly3.there
    -- the exception is no frame, and not of the entry's heap
    have nofr : a ∉ frs (X.env :: X.outer) := fun m => by
      obtain ⟨_, oo, eo, hnf⟩ := fly3.2.2.1.mem m
      rw [at3] at eo
      cases eo
      exact hnf _ f3
    have nL : a ≠ X.env.locals := fun y => nofr (List.mem_filterMap.mpr ⟨X.env, List.mem_cons_self, by rw [hf, y]⟩)
    have nF : a ∉ X.fs := fun m => by
      obtain ⟨ee, hee, y⟩ := List.mem_filterMap.mp m
      exact nofr (List.mem_filterMap.mpr ⟨ee, List.mem_cons_of_mem _ hee, y⟩)
    have notI : sI.heap.get? a = none := by
      cases y : sI.heap.get? a with
      | none => rfl
      | some o =>
        have y2 := nb a o y (by rw [hs]; exact nofr)
        rw [fly3.2.1] at y2
        cases y2
    have not0 : X.s_0.heap.get? a = none := by
      cases y : X.s_0.heap.get? a with
      | none => rfl
      | some o =>
        obtain ⟨o2, y2⟩ := J.base.there a o y (by rw [hex]; simp)
        rw [notI] at y2
        cases y2
    have nC : ∀ y k, X.env.cells.lookup y = some k → k ≠ a := fun y k e q => by
      obtain ⟨v, o, ho, _⟩ := J.cell y k e
      rw [q, notI] at ho
      cases ho
    have nP : ∀ p ∈ X.pn ++ pins, p.1 ≠ a := fun p hp q => by
      have y := (J.pin p hp).1
      rw [q, notI] at y
      cases y
    have S3 := J3.suite at3 f3 na nL nF
    refine wpAny_handleBy_cons (codeAny_handlers_test ?_) (by intro y; cases y)
    have kind : PySem.W.Looks (model X.prog X.w) g3 (typeOf (.ref a)) cls := fun A Q E y k q => wpAny_typeOf_ref (k _ _ at3) (by rw [z3.1]; exact q)
    have match_ := PySem.W.exm_one (M := model X.prog X.w) (J3.kIn) kind hm
    have named : ∀ {Q : Value → Shared → Prop} {E : Value → Shared → Prop}, Q c { z with heap := g3 } → wpAny (model X.prog X.w) (X.A.mark (some (.ref a))) (eval (.Name x np) X.env) Q E { z with heap := g3 } := fun {Q E} y => by
      obtain ⟨w1, w2, w3 | ⟨w3, w4, w5⟩⟩ := hc
      · exact ld_glob (X := X.suite a ((a, o3) :: (X.pn ++ pins))) S3 w1 w3 y w2
      · exact ld_blt (X := X.suite a ((a, o3) :: (X.pn ++ pins))) S3 w1 w3 w4 y w5 w2
    refine named (match_.here ?_)
    refine codeAny_handlers_suite_as (HandSPX.lands_againZ fly3 fun g4 fly4 up4 => ?_)
    obtain ⟨o4, v4, at4, z4, f4⟩ := fly4.there
    have J4 : Inv X pins σ1 H1 { z with heap := g4 } := J.landed nb fly4.1 ((up.trans up3).trans up4) os ag
    have J5 : Inv X pins σ1 (upd H1 a (XO cls d a)) { z with heap := g4 } := hold J4 na not0 nL nC nP (xo_ok at4 z4 f4)
    have S5 : Inv (X.suite a (X.pn ++ pins)) [] σ1 (upd H1 a (XO cls d a)) { z with heap := g4 } := { ok := ok.suite _ _, os := J5.os, bare := J5.bare, base := J5.base, loc := J5.loc, cell := J5.cell, free := J5.free, freeC := J5.freeC, pin := fun p hp => J5.pin p (by rw [List.append_nil] at hp; exact hp), hok := J5.hok, len := J5.len }
    refine store_ok (X := X.suite a (X.pn ++ pins)) (v := .ref a) S5 hN hi home rfl (fun y5 S6 => ?_) (.inr hln)
    refine wpAny_mono ((hsu a cls d (X.pn ++ pins)).run [] y5 _ _ _ S6 (yes a na)) (fun fl y6 q => ?_) (fun _ _ y => False.elim y)
    have gone : ∀ {σ6 : L2.St} {H6 : Hp} {Q : Shared → Prop}, Inv (X.suite a (X.pn ++ pins)) [] σ6 H6 y6 → (∀ y7, Inv X pins (σ6.set i none) H6 y7 → Q y7) → wpAny (model X.prog X.w) X.A (do bindName X.env n .none; unbindBehindTheSuite X.env n pos') (fun _ y7 => Q y7) X.xe y6 := fun {σ6 H6 Q} R hq =>
      gone_ok (X := X) (pins := pins) { ok := ok, os := R.os, bare := R.bare, base := R.base, loc := R.loc, cell := R.cell, free := R.free, freeC := R.freeC, pin := fun p hp => R.pin p (by rw [List.append_nil]; exact hp), hok := R.hok, len := R.len } hN hi hln hq
    match fl, q with
    | .next, ⟨σ6, H6, R, q6⟩ => exact gone R fun y7 J7 => ⟨_, _, J7, q6⟩
    | .brk, ⟨σ6, H6, R, q6⟩ => exact gone R fun y7 J7 => ⟨_, _, J7, q6⟩
    | .cont, ⟨σ6, H6, R, q6⟩ => exact gone R fun y7 J7 => ⟨_, _, J7, q6⟩
    | .ret u, ⟨v6, σ6, H6, R, r6, q6⟩ => exact gone R fun y7 J7 => ⟨_, _, _, J7, r6, q6⟩
  · match fl, q with
    | .next, ⟨σ1, H1, R, y⟩ => exact wpAny_execs_nil ⟨σ1, H1, R.ofTry ok, y⟩
    | .brk, ⟨σ1, H1, R, y⟩ => exact ⟨σ1, H1, R.ofTry ok, y⟩
    | .cont, ⟨σ1, H1, R, y⟩ => exact ⟨σ1, H1, R.ofTry ok, y⟩
    | .ret u, ⟨v, σ1, H1, R, r, y⟩ => exact ⟨v, σ1, H1, R.ofTry ok, r, y⟩
end
end W2

namespace W2
open PySem PySem.Spec PyProof.Rows L2 Pg Pf
theorem takes_len {X : Cx} {W : WX} (tk : Takes X W) : Takes X (fun cls d σ H => σ.length = X.N.length → W cls d σ H) := fun u s' ⟨a, B, sI, pins, σ, H, cls, d, e, I, nb, up, sky, na, os, ag, w⟩ => tk u s' ⟨a, B, sI, pins, σ, H, cls, d, e, I, nb, up, sky, na, os, ag, w I.len⟩
abbrev s__law_part : Stmt := top 21
abbrev N__law_part : List Str := ["_law_call", "_law_error", "e"]
theorem sc__law_part : FnScope N__law_part ["_law_call"] (defScope s__law_part) := ⟨rfl, rfl, rfl, by decide +kernel, rfl, by decide +kernel, by decide +kernel⟩
/-- what is made of a lambda's reading: no error, or the error's part -/
def EPart (K : PySem.W.Frag) (CE : Addr) (Q : VK) : XK := fun cls d H' => cls = .ref CE ∧ ∃ (dd : Addr) (v : V), d = some dd ∧ H' dd = some (.xd [(x_fld, v)]) ∧ ∀ a p, H' a = none → (upd H' a (XO (.ref CE) (some dd) a)) p = none → Q (.ref p) (upd (upd H' a (XO (.ref CE) (some dd) a)) p (.lst [v]))
def TPart (K : PySem.W.Frag) (CE : Addr) : (XK → Hp → VK → Prop) → Hp → VK → Prop := fun tl H Q =>
  ∀ (E : XK) (N : VK), (∀ v H', (∀ p, H' p = none → Q (.ref p) (upd H' p (.lst []))) → N v H') → (∀ cls d H', EPart K CE Q cls d H' → E cls d H') → tl E H N
theorem tpart_use {K : PySem.W.Frag} {CE : Addr} {tl : XK → Hp → VK → Prop} {H : Hp} {Q N : VK} {W : WX} {p1 p2 : Prop} (h : TPart K CE tl H Q) (a : p1) (b : p2) (hN : ∀ v H', (∀ p, H' p = none → Q (.ref p) (upd H' p (.lst []))) → N v H') (hE : ∀ cls d H', EPart K CE Q cls d H' → ∀ σ' : L2.St, σ'.length = 3 → W cls d σ' H') :
    ∃ Ech : XK, (∀ cls d σ' H', Ech cls d H' → σ'.length = 3 → W cls d σ' H') ∧ p1 ∧ p2 ∧ tl Ech H N := ⟨fun cls d H' => ∀ σ' : L2.St, σ'.length = 3 → W cls d σ' H', fun _ _ σ' _ e hl => e σ' hl, a, b, h _ _ hN hE⟩
theorem part_gives {X : Cx} {q : Str} {g CE : Addr} {cdg : Value} (T : XfC X.K CE) (hno : PySem.W.findIn X.K (.ref CE) x_fld = some none) (gE : X.mg "InvalidWay" = some (.ref CE)) (hm : PySem.W.exmOne X.K (.ref CE) (.ref CE) = some true) :
    LamX.GivesTo X N__law_part "_law_part" (defScope s__law_part) g cdg (defBody s__law_part) "_law_call" q (TPart X.K CE) := by
  intro f c' s H Q tl act hc h
  have nd := sc__law_part.nd
  refine ⟨_, pss_cons (ps_set (i := 1) nd rfl (Or.inl rfl) pe_non)
    (pss_cons (ps_keep (i := 2) (c := .ref CE) (tb := fun W D σ H => ∃ Ech : XK, (∀ cls d σ' H', Ech cls d H' → σ'.length = 3 → W cls d σ' H') ∧ σ[0]? = some (some (.ref f)) ∧ H c' = some (LamX.CodeO c' q) ∧ tl Ech H fun _ H' => D.nx σ H') (ts := fun a cls d => tAsg (tVar 2) (gName 1)) rfl rfl rfl nd rfl rfl ⟨rfl, by decide, .inl gE⟩ (fun W pn xe tk _ => ?_) (fun a cls d pn => pss_one (ps_set (i := 1) nd rfl (Or.inl rfl) (pv 2))))
    (pss_one (ps_ret (pe_ifExp (pt_cmpR op_isN (pv 1) pe_non (nomark _)) (pe_lst pa_nil) (pe_lst (pa_cons (pe_xo T hno (pv 1)) pa_nil)))))), ?_⟩
  · refine ⟨fun pins s' σ H' D I h' => ?_⟩
    obtain ⟨Ech, hW, h1, h2, h3⟩ := h'
    exact (pss_one (ps_expr (act (fun cls d σ H => σ.length = 3 → W cls d σ H) pn xe Ech _ _ (takes_len tk) hW))).run pins s' σ H' D I ⟨h1, h2, h3⟩
  · refine tpart_use h rfl hc (fun v H' k => ?_) (fun cls d H' hE σ' hl => ?_)
    · refine ⟨_, rfl, rfl, _, rfl, ?_⟩
      rw [decide_eq_true rfl]
      exact iteT ⟨(by show 0 ≤ sizeLine; decide), k⟩
    · obtain ⟨ecls, dd, v, ed, hd, k⟩ := hE
      subst ecls ed
      refine ⟨hm, fun a na => ?_⟩
      match σ', hl with
      | [v0, v1, v2], _ =>
        refine ⟨_, rfl, ?_⟩
        refine ⟨_, rfl, rfl, _, rfl, ?_⟩
        rw [decide_eq_false (by intro z; cases z)]
        refine iteF ?_
        refine ⟨_, rfl, a, dd, [(x_fld, v)], v, rfl, upd_same, ?_, rfl, (by show 1 ≤ sizeLine; decide), fun p hp => k a p na hp⟩
        rw [upd_ne (ne_of_none hd na)]
        exact hd
end W2

namespace W2
open PySem PySem.Spec PyProof.Rows L2 Pg Pf LamX
/-- the name of the lambdas of a def -/
abbrev lamQ (x : Str) (sc : Scope) : Str := (envOfC x sc 0 0 .none).qual ++ "<lambda>"
/-- a def whose code object stands at c, with its table at P -/
structure FunT (K : PySem.W.Frag) (mg : Str → Option Value) (base : Heap) (T : List (Addr × Str)) (x : Str) (st : Stmt) (f : Addr) (fd : FuncData) (c P : Addr) : Prop where
  ex : ∃ (oc : Value) (od : Option Addr) (kV doc pm : Value) (an : Option Addr) (ct : Value) (osl : Array (Option Value)),
    fd = PySem.W.fnOf x x (defArgs st) (defBody st) (defScope st) .none kV doc pm an (.ref c) ct ∧ K.lookup f = some ⟨oc, od, .func fd, osl⟩ ∧ PySem.W.codeIn K (.ref c) x = true
  kp : PySem.W.keepIn K (.ref f) = true
  tb : TabB base mg c P
  mem : (P, lamQ x (defScope st)) ∈ T
  uni : ∀ p ∈ T, p.1 = P → p.2 = lamQ x (defScope st)
section
variable {P : Program} {w : World} {K : PySem.W.Frag} {mg : Str → Option Value} {base : Heap} {k : Nat} {f : Addr}
theorem okT {x : Str} {st : Stmt} {fd : FuncData} {N ps : List Str} {sp : Sp} {T : List (Addr × Str)} {c Pt : Addr} (F : FunT K mg base T x st f fd c Pt) (S : FnScope N ps (defScope st)) (len : ∀ vs H Q E, sp vs H Q E → vs.length = ps.length)
    (hbody : ∀ (A : Around) (outer : List Env) (s : Shared) (H : Hp) (vs : List V) (Q : VK) (E : XK), Room k (A.deeper (envOfC x (defScope st) s.heap.objs.size f (.ref c))) → (A.deeper (envOfC x (defScope st) s.heap.objs.size f (.ref c))).guards = some [] → sp vs H Q E →
      ∃ t, PSs (cxOf CX0 P w K mg base N x (defScope st) f (.ref c) A outer s H E).nox (defBody st) t ∧ t { nx := fun _ H' => Q .non H', rt := Q } (start N vs) H) : FnG P w K mg base (k + 1) f fd ps sp := by
  obtain ⟨oc, od, kV, doc, pm, an, ct, osl, rfl, lk, hcd⟩ := F.ex
  refine fnG_of lk hcd S len fun A outer s H vs Q E hr hgd hsp => ?_
  obtain ⟨t, h, q⟩ := hbody A outer s H vs Q E hr hgd hsp
  exact ⟨t, h.nox, q⟩
end
mutual
theorem eqv_rfl : ∀ d : PyData, d.canLay0 = true → PyData.eqv d d = true
  | .none, _ => rfl
  | .bool b, _ => by simp [PyData.eqv]
  | .int i, _ => by simp [PyData.eqv]
  | .str x, _ => by simp [PyData.eqv]
  | .list ds, h => eqvAll_rfl ds h
  | .tuple ds, h => eqvAll_rfl ds h
  | .dict _, h => by cases h
theorem eqvAll_rfl : ∀ ds : List PyData, PyData.canLayAll0 ds = true → PyData.eqvAll ds ds = true
  | [], _ => rfl
  | d :: ds, h => by
    have h' := Bool.and_eq_true_iff.mp (show (d.canLay0 && PyData.canLayAll0 ds) = true from h)
    show (PyData.eqv d d && PyData.eqvAll ds ds) = true
    rw [eqv_rfl d h'.1, eqvAll_rfl ds h'.2]
    rfl
end
/-- repr of a bool -/
theorem call_reprB {X : Cx} : CallR X (.builtin "repr") (fun xs H Q => ∃ b : Bool, xs = [.bl b] ∧ Q (.str (if b then "True" else "False")) H) := by
  intro pins s σ H xs us Q I r h
  obtain ⟨b, rfl, q⟩ := h
  obtain ⟨u, rfl, ru⟩ := vals1 r
  obtain rfl : u = Value.bool b := ru
  exact PySem.P.repr_of_bool ⟨.str _, H, I.tok _, ⟨_, rfl⟩, q⟩
/-- the law's own def that tells the part of an error: its def stands at g -/
structure Lp (K : PySem.W.Frag) (mg : Str → Option Value) (CE : Addr) : Prop where
  ex : ∃ (g : Addr) (dV kV doc pm cdv ct oc : Value) (an od : Option Addr) (osl : Array (Option Value)), mg "_law_part" = some (.ref g) ∧ PySem.W.keepIn K (.ref g) = true ∧
    K.lookup g = some ⟨oc, od, .func (PySem.W.fnOf "_law_part" "_law_part" (defArgs s__law_part) (defBody s__law_part) (defScope s__law_part) dV kV doc pm an cdv ct), osl⟩ ∧ PySem.W.codeIn K cdv "_law_part" = true ∧
    Binds K (PySem.W.fnOf "_law_part" "_law_part" (defArgs s__law_part) (defBody s__law_part) (defScope s__law_part) dV kV doc pm an cdv ct) ["_law_call"] []
  xf : XfC K CE
  no : PySem.W.findIn K (.ref CE) x_fld = some none
  gl : mg "InvalidWay" = some (.ref CE)
  em : PySem.W.exmOne K (.ref CE) (.ref CE) = some true
/-- the class, called from any values -/
structure MaX (P : Program) (w : World) (K : PySem.W.Frag) (mg : Str → Option Value) (base : Heap) (C CE : Addr) : Prop where
  ex : ∃ (f : Addr) (fd : FuncData), Mk K C f ∧ FnOk P w K mg base (L2.CX P w) 4 f fd ["self", "rights", "lefts", "places"] (spInitX K C CE) ∧ Binds K fd ["self", "rights", "lefts", "places"] []
  gl : mg "Way" = some (.ref C)
theorem part_good {r l k : Nat} (r1 : 1 ≤ r) (r2 : r ≤ 6) (l1 : 1 ≤ l) (l2 : l ≤ 6) (k1 : 1 ≤ k) (k2 : k ≤ 12) : partO (some (r : Int)) (some (l : Int)) (some (k : Int)) = .non := by
  have one : ∀ (n : Nat) (m : Int), 1 ≤ n → (n : Int) ≤ m → inO (some (n : Int)) 1 m = true := fun n m a b => by
    show (decide ((1 : Int) ≤ (n : Int)) && decide ((n : Int) ≤ m)) = true
    rw [decide_eq_true b, decide_eq_true (by omega)]
    rfl
  unfold partO
  rw [one r 6 r1 (by omega), one l 6 l1 (by omega), one k 12 k1 (by omega)]
  rfl
theorem due_data (a b c : Option Int) : (partO a b c = .non ∧ dueO a b c = []) ∨ ∃ p : Str, partO a b c = .str p ∧ dueO a b c = [.str p] ∧ SeqAt.shaped (.list [.str p]) = true ∧ PyData.eqv (.list [.str p]) (.list [.str p]) = true := by
  have one : ∀ p : Str, partO a b c = .str p → dueO a b c = [.str p] := fun p e => by
    unfold dueO
    rw [e]
  rcases (show partO a b c = .non ∨ partO a b c = .str "rights" ∨ partO a b c = .str "lefts" ∨ partO a b c = .str "places" by
    unfold partO
    split
    · exact .inr (.inl rfl)
    · split
      · exact .inr (.inr (.inl rfl))
      · split
        · exact .inr (.inr (.inr rfl))
        · exact .inl rfl) with e | e | e | e
  · refine .inl ⟨e, ?_⟩
    unfold dueO
    rw [e]
  · exact .inr ⟨_, e, one _ e, by decide +kernel, by decide +kernel⟩
  · exact .inr ⟨_, e, one _ e, by decide +kernel, by decide +kernel⟩
  · exact .inr ⟨_, e, one _ e, by decide +kernel, by decide +kernel⟩
abbrev s__law_checked : Stmt := top 22
abbrev N__law_checked : List Str := ["_law_east", "_law_west", "_law_spots", "_law_due_here"]
theorem sc__law_checked : FnScope N__law_checked ["_law_east", "_law_west", "_law_spots"] (defScope s__law_checked) := ⟨rfl, rfl, rfl, by decide +kernel, rfl, by decide +kernel, by decide +kernel⟩
/-- known for good: no table -/
def NoT (G : Hp) : Prop := ∀ b ps, G b ≠ some (.tbl ps)
def spChecked1 (K : PySem.W.Frag) (T : List (Addr × Str)) : Sp := fun vs H Q _ => ∃ (G : Hp) (x y z : V) (a b c : Option Int), vs = [x, y, z] ∧ Same G H ∧ NoT G ∧ Tabs T H ∧ Vk K G x a ∧ Vk K G y b ∧ Vk K G z c ∧ ∀ H', ExtN H H' → Tabs T H' → Q (.bl true) H'
section
variable {P : Program} {w : World} {K : PySem.W.Frag} {mg : Str → Option Value} {base : Heap} {f C CE c Pt : Addr} {fd : FuncData} {T : List (Addr × Str)}
theorem ok_checked (B : Bt mg) (cD : CalO P w K mg base 3 "_law_due" (spDue K)) (cS : Sm P w K mg base 4 C "is_size" (spSizeD K)) (L : Lp K mg CE) (M : MaX P w K mg base C CE) (F : FunT K mg base T "_law_checked" s__law_checked f fd c Pt) : FnG P w K mg base 9 f fd ["_law_east", "_law_west", "_law_spots"] (spChecked1 K T) := by
  obtain ⟨g, dV, kV, doc, pm, cdv, ct, oc, an, od, osl, mg1, kp1, lk1, cd1, bd1⟩ := L.ex
  obtain ⟨fI, fdI, mk, okI, bI⟩ := M.ex
  refine okT F sc__law_checked (fun vs H Q E h => ?_) (fun A outer s H vs Q E hr hgd h => ?_)
  · obtain ⟨G, x, y, z, a, b, c, rfl, _⟩ := h
    rfl
  · obtain ⟨G, x, y, z, o1, o2, o3, rfl, sG, nT, tT, hx, hy, hz, fin⟩ := h
    have nd := sc__law_checked.nd
    refine ⟨_, (pss_cons (ps_set (i := 3) nd rfl (Or.inl rfl) (pe_cO cD hr (by decide) rfl (pa_cons (pv 0) (pa_cons (pv 1) (pa_cons (pv 2) pa_nil)))))
      (pss_cons (ps_if (pt_cmpR (op_neD hr.units) (pe_lamcall (T := T) (TT := TPart K CE) (a := "_law_call") (Ng := N__law_part) (k := 5) (t := fun E => tMake C (spInitX K C CE) [] E (tCons (tVar 0) (tCons (tVar 1) (tCons (tVar 2) tNil)))) rfl mg1 kp1 lk1 cd1 bd1 sc__law_part rfl (Or.inl rfl) (part_gives L.xf L.no L.gl L.em) F.tb rfl F.mem F.uni (hr.mono (by decide)) (lamS_by (by rfl)) rfl (fun _ _ _ _ _ => rfl)
          (fun A outer s H E f c' hr' => pe_make mk okI hr' rfl M.gl bI .nil (passes_call (takes_of rfl rfl rfl rfl) (fun _ _ _ _ h => h)) (pa_cons (pv 0) (pa_cons (pv 1) (pa_cons (pv 2) pa_nil))))) (pv 3) (nomark _)) (pss_one (ps_ret pe_bl)) pss_nil)
      (pss_one (ps_ret (pe_cmpR op_eq (pe_callB call_reprB (by rfl) B.repr (by decide +kernel) (pa_cons (pe_sm cS hr (by decide) (pe_glob (v := .ref C) (by rfl) M.gl rfl) (pa_cons (pv 0) (pa_cons (pv 1) (pa_cons (pv 2) pa_nil)))) pa_nil)) (pe_callB call_reprB (by rfl) B.repr (by decide +kernel) (pa_cons (pe_cmpR (op_eqD hr.units) (pv 3) (pe_lst pa_nil) (nomark _)) pa_nil)) (nomark _)))))), ?_⟩
    have dueD : ∃ ds : List PyData, (∀ H' : Hp, DpAll K H' (dueO o1 o2 o3) ds) ∧ SeqAt.shaped (.list ds) = true ∧ PyData.eqv (.list ds) (.list ds) = true ∧ PyData.eqv (.list ds) (.list []) = decide (partO o1 o2 o3 = .non) := by
      rcases due_data o1 o2 o3 with ⟨e, e2⟩ | ⟨ps, e, e2, e3, e4⟩
      · refine ⟨[], fun H' => ?_, rfl, rfl, ?_⟩
        · rw [e2]
          exact .nil
        · rw [e]
          rfl
      · refine ⟨[.str ps], fun H' => ?_, e3, e4, ?_⟩
        · rw [e2]
          exact .cons (.str _) .nil
        · rw [e, decide_eq_false (by intro z; cases z)]
          rfl
    obtain ⟨ds, hds, sh, eq1, eq2⟩ := dueD
    refine ⟨_, rfl, _, rfl, _, rfl, G, x, y, z, o1, o2, o3, rfl, sG, hx, hy, hz, fun p hp => ?_⟩
    have s1 : Same H (upd H p (.lst (dueO o1 o2 o3))) := Same.new hp
    refine ⟨tT.ext s1, fun H2 ext t2 E2 N hN hE => ?_⟩
    have S2 : Same G H2 := fun b o e => ext b o (s1 b o (sG b o e)) fun ps z => nT b ps (z ▸ e)
    have p2at : H2 p = some (.lst (dueO o1 o2 o3)) := ext p _ upd_same (fun ps z => by cases z)
    refine ⟨_, rfl, _, rfl, _, rfl, fun a dx na ndx nad => ?_⟩
    have up2 : Same H2 (upd (upd H2 dx (.own a)) a (.ins C dx [])) := (Same.new ndx).trans (Same.new (by rw [upd_ne nad.symm]; exact na))
    refine ⟨G, a, dx, x, y, z, o1, o2, o3, rfl, S2.trans up2, S2.free na, upd_same, hx, hy, hz, fun r l k e1 e2 e3 b1 b2 b3 b4 b5 b6 t' G' H' _ _ keep _ _ _ _ => ⟨rfl, hN _ _ fun q hq => ?_⟩, fun ps e d hd => hE _ _ _ ⟨rfl, d, .str ps, rfl, upd_same, fun a2 q na2 nq => ?_⟩⟩
    · have S5 : Same H2 (upd H' q (.lst [])) := fun b o e => by
        have nb : b ≠ a := ne_of_none e na
        have e1 := keep b o (up2 b o e) nb
        rw [upd_ne (ne_of_none e1 hq)]
        exact e1
      have hq5 : (upd H' q (.lst [])) q = some (.lst []) := upd_same
      have de : dueO o1 o2 o3 = [] := by
        unfold dueO
        rw [e1, e2, e3, part_good b1 b2 b3 b4 b5 b6]
      have hd0 : ∀ H' : Hp, DpAll K H' [] ds := fun H' => de ▸ hds H'
      refine ⟨_, rfl, .list ds, .list ds, .lst (SqL.of hq5) (hd0 _), .lst (SqL.of (S5 _ _ p2at)) (hds _), sh, sh, _, rfl, ?_⟩
      rw [eq1]
      refine iteF ?_
      refine ⟨.inl rfl, _, rfl, _, rfl, _, rfl, G, x, y, z, o1, o2, o3, rfl, S2.trans S5, hx, hy, hz, _, rfl, ?_⟩
      refine ⟨_, rfl, (by show 0 ≤ sizeLine; decide), fun L hL => ?_⟩
      have S6 := S5.trans (Same.new (o := .lst []) hL)
      refine ⟨.list ds, .list [], .lst (SqL.of (S6 _ _ p2at)) (hds _), .lst (SqL.of upd_same) .nil, sh, rfl, _, rfl, rfl, ?_⟩
      rw [eq2, decide_eq_true rfl]
      exact fin _ (((ExtN.of s1).trans ext).trans (ExtN.of S6)) (t2.ext S6)
    · have S5 : Same H2 (upd (upd (upd (upd (upd H2 dx (.own a)) a (.ins C dx [])) d (.xd [(x_fld, .str ps)])) a2 (XO (.ref CE) (some d) a2)) q (.lst [.str ps])) := ((up2.trans (Same.new hd)).trans (Same.new na2)).trans (Same.new nq)
      have hq5 : (upd (upd (upd (upd (upd H2 dx (.own a)) a (.ins C dx [])) d (.xd [(x_fld, .str ps)])) a2 (XO (.ref CE) (some d) a2)) q (.lst [.str ps])) q = some (.lst [.str ps]) := upd_same
      have de : dueO o1 o2 o3 = [.str ps] := by
        unfold dueO
        rw [e]
      have hd0 : ∀ H' : Hp, DpAll K H' [.str ps] ds := fun H' => de ▸ hds H'
      refine ⟨_, rfl, .list ds, .list ds, .lst (SqL.of hq5) (hd0 _), .lst (SqL.of (S5 _ _ p2at)) (hds _), sh, sh, _, rfl, ?_⟩
      rw [eq1]
      refine iteF ?_
      refine ⟨.inl rfl, _, rfl, _, rfl, _, rfl, G, x, y, z, o1, o2, o3, rfl, S2.trans S5, hx, hy, hz, _, rfl, ?_⟩
      refine ⟨_, rfl, (by show 0 ≤ sizeLine; decide), fun L hL => ?_⟩
      have S6 := S5.trans (Same.new (o := .lst []) hL)
      refine ⟨.list ds, .list [], .lst (SqL.of (S6 _ _ p2at)) (hds _), .lst (SqL.of upd_same) .nil, sh, rfl, _, rfl, rfl, ?_⟩
      rw [eq2, decide_eq_true rfl]
      exact fin _ (((ExtN.of s1).trans ext).trans (ExtN.of S6)) (t2.ext S6)
end
end W2

set_option maxHeartbeats 400000
namespace W2
open PySem PySem.Spec PyProof.Rows L2 Pg Pf LamX
/-- the new object, then three values by names, turned into the order of the def -/
def gK {α : Type} : List α → List α → List α
  | [s], [p, l, r] => [s, r, l, p]
  | _, _ => []
/-- a static method, called on the class by three names -/
structure SmK (P : Program) (w : World) (K : PySem.W.Frag) (mg : Str → Option Value) (base : Heap) (k : Nat) (C : Addr) (m : Str) (sp : Sp) : Prop where
  ex : ∃ (p g : Addr) (fd : FuncData) (mc : Value) (rest : List Value), ClX.CRead K C mc ∧ PySem.W.findCls K (.ref C) mc m = some (.get (.builtin "staticmethod.__get__") (.ref p) .none (.ref C)) ∧ PySem.W.recIn K p "staticmethod" = some (.ref g :: rest) ∧
    PySem.W.keepIn K (.ref g) = true ∧ FnOk P w K mg base CX0 k g fd ["rights", "lefts", "places"] sp ∧ ∀ (s : Shared) (w1 w2 w3 : Value), BindsTo s fd ⟨[], [("places", w1), ("lefts", w2), ("rights", w3)]⟩ [("rights", w3), ("lefts", w2), ("places", w1)]
def tSmK (C : Addr) (sp : Sp) (ta t1 t2 t3 : TE) : TE := fun σ H Q => ta σ H fun x H1 => x = .ref C ∧ tCons t1 (tCons t2 (tCons t3 tNil)) σ H1 fun zs H2 => ∃ y1 y2 y3, zs = [y1, y2, y3] ∧ sp [y3, y2, y1] H2 Q E0
section
variable {X : Cx} {k j : Nat} {C : Addr} {m : Str} {sp : Sp} {pos apos q1 q2 q3 : Pos} {o e1 e2 e3 : Expr} {ta t1 t2 t3 : TE}
theorem pe_smK {pl : Sem Bool} (c : SmK X.prog X.w X.K X.mg X.base k C m sp) (hr : Room j X.A) (hk : k ≤ j) (ho : PE X o ta) (h1 : PE X e1 t1) (h2 : PE X e2 t2) (h3 : PE X e3 t3)
    (hpl : ((backTo pos (starEach [] X.env)).any (·.1) || (backToKw pos (keywordEach [⟨some "places", e1, q1⟩, ⟨some "lefts", e2, q2⟩, ⟨some "rights", e3, q3⟩] X.env)).any (·.1.isNone)) = false := by rfl)
    (hall : (backToKw pos (keywordEach [⟨some "places", e1, q1⟩, ⟨some "lefts", e2, q2⟩, ⟨some "rights", e3, q3⟩] X.env)).all (·.1.isSome) = true := by rfl)
    (ht : eval (.Call (.Attribute o m apos) [] [⟨some "places", e1, q1⟩, ⟨some "lefts", e2, q2⟩, ⟨some "rights", e3, q3⟩] pos) X.env = (do
      let ov ← eval o X.env
      standAt apos.atName
      let (f, first) ← holding [ov] (getMethod ov m pl)
      callWith pos f first (backTo pos (starEach [] X.env)) (backToKw pos (keywordEach [⟨some "places", e1, q1⟩, ⟨some "lefts", e2, q2⟩, ⟨some "rights", e3, q3⟩] X.env))) := by rfl) :
    PE X (.Call (.Attribute o m apos) [] [⟨some "places", e1, q1⟩, ⟨some "lefts", e2, q2⟩, ⟨some "rights", e3, q3⟩] pos) (tSmK C sp ta t1 t2 t3) := by
  obtain ⟨p, g, fd, mc, rest, rd, at_, rc, kp, F, hb⟩ := c.ex
  refine ⟨fun pins s σ H Q I h => ?_⟩
  refine PySem.W.methodCall_KW (pl := pl) (thn (ho.run pins s σ H _ I h) fun u s1 ⟨x, H1, I1, rx, hx, q⟩ => ?_) ht
  subst hx
  obtain rfl : u = Value.ref C := rx
  refine PySem.W.method_cls I1.kIn rd.ga (PySem.W.cls_bind I1.kIn rd.rd at_ (wpAny_call (PySem.W.sm_get (s := { s1 with toks := s1.toks + 1 }) I1.kIn rc (PySem.W.handed_on rfl ?_))))
  have I2 : Inv X pins σ H1 { s1 with toks := s1.toks + 1 } := I1.tok _
  refine PySem.W.callWith_KW0 (first := []) (h₀ := X.base) I2.ok.mod.kin kp hall ?_ hpl
  refine thn ((pk_cons h1 (pk_cons h2 (pk_cons h3 pk_nil))).run pos pins _ σ H1 _ I2 q) fun ws s3 ⟨zs, H3, I3, rz, y1, y2, y3, ez, q3⟩ => ⟨I3.kIn, ?_⟩
  subst ez
  cases rz with
  | @cons _ w1 _ _ r1 rz =>
  cases rz with
  | @cons _ w2 _ _ r2 rz =>
  cases rz with
  | @cons _ w3 _ _ r3 rz =>
  cases rz
  show wpAny (model X.prog X.w) X.A (call (.ref g) [] [("places", w1), ("lefts", w2), ("rights", w3)]) (EP X pins σ Q) X.xe s3
  refine wpAny_call (codeAny_mono (F.run X.A X.stack s3 H3 ⟨[], [("places", w1), ("lefts", w2), ("rights", w3)]⟩ [w3, w2, w1] [y3, y2, y1] Q E0 (hr.mono hk) I3.env0 (hb s3 w1 w2 w3) (.cons r3 (.cons r2 (.cons r1 .nil))) q3) fun r s' hq => ?_)
  cases r with
  | error e => exact False.elim hq
  | ok fl =>
    cases fl with
    | ret u => exact I3.after hq
    | next => exact False.elim hq
    | brk => exact False.elim hq
    | cont => exact False.elim hq
end
theorem two_bools (b : Bool) : (PyData.list [.bool b, .bool b]).showable = true ∧ (PyData.list [.bool b, .bool b]).hasDict = false ∧ (PyData.list [.bool b, .bool b]).depth ≤ 60 ∧ (PyData.list [.bool b, .bool b]).shown.length ≤ sizeLine := by
  cases b <;> exact ⟨by decide +kernel, by decide +kernel, by decide +kernel, by decide +kernel⟩
abbrev s__law_by_names : Stmt := top 23
abbrev N__law_by_names : List Str := ["_law_road", "_law_east", "_law_west", "_law_spots", "_law_due_here", "_law_told"]
theorem sc__law_by_names : FnScope N__law_by_names ["_law_road", "_law_east", "_law_west", "_law_spots"] (defScope s__law_by_names) := ⟨rfl, rfl, rfl, by decide +kernel, rfl, by decide +kernel, by decide +kernel⟩
/-- .. of any instance of the class at hand -/
def spByNames (K : PySem.W.Frag) (T : List (Addr × Str)) (C : Addr) : Sp := fun vs H Q _ => ∃ (G : Hp) (rd dr : Addr) (fs : List (Str × V)) (x y z : V) (a b c : Option Int), vs = [.ref rd, x, y, z] ∧ Same G H ∧ NoT G ∧ Tabs T H ∧ G rd = some (.ins C dr fs) ∧ fs.lookup ("is_size" : Str) = none ∧ Vk K G x a ∧ Vk K G y b ∧ Vk K G z c ∧ ∀ H', ExtN H H' → Tabs T H' → Q (.bl true) H'
section
variable {P : Program} {w : World} {K : PySem.W.Frag} {mg : Str → Option Value} {base : Heap} {f C CE c Pt fI : Addr} {fd fdI : FuncData} {T : List (Addr × Str)}
theorem ok_by_names (B : Bt mg) (cD : CalO P w K mg base 3 "_law_due" (spDue K)) (cS : Sm P w K mg base 4 C "is_size" (spSizeD K)) (cN : SmK P w K mg base 4 C "is_size" (spSizeD K)) (L : Lp K mg CE) (mk : Mk K C fI) (okI : FnOk P w K mg base (L2.CX P w) 4 fI fdI ["self", "rights", "lefts", "places"] (spInitX K C CE)) (kb : KBn K fdI ["self", "rights", "lefts", "places"] 1 ["places", "lefts", "rights"] gK gK) (mC : mg "Way" = some (.ref C))
    (F : FunT K mg base T "_law_by_names" s__law_by_names f fd c Pt) : FnG P w K mg base 9 f fd ["_law_road", "_law_east", "_law_west", "_law_spots"] (spByNames K T C) := by
  obtain ⟨g, dV, kV, doc, pm, cdv, ct, oc, an, od, osl, mg1, kp1, lk1, cd1, bd1⟩ := L.ex
  refine okT F sc__law_by_names (fun vs H Q E h => ?_) (fun A outer s H vs Q E hr hgd h => ?_)
  · obtain ⟨G, rd, dr, fs, x, y, z, a, b, c, rfl, _⟩ := h
    rfl
  · obtain ⟨G, rd, dr, fs, x, y, z, o1, o2, o3, rfl, sG, nT, tT, hrd, hfs, hx, hy, hz, fin⟩ := h
    have nd := sc__law_by_names.nd
    refine ⟨_, (pss_cons (ps_set (i := 4) nd rfl (Or.inl rfl) (pe_cO cD hr (by decide) rfl (pa_cons (pv 1) (pa_cons (pv 2) (pa_cons (pv 3) pa_nil)))))
      (pss_cons (ps_if (pt_cmpR (op_neD hr.units) (pe_lamcall (T := T) (TT := TPart K CE) (a := "_law_call") (Ng := N__law_part) (k := 5) (t := fun E => tMakeK C 0 3 (spInitX K C CE) gK E tNil (tCons (tVar 3) (tCons (tVar 2) (tCons (tVar 1) tNil)))) rfl mg1 kp1 lk1 cd1 bd1 sc__law_part rfl (Or.inl rfl) (part_gives L.xf L.no L.gl L.em) F.tb rfl F.mem F.uni (hr.mono (by decide)) (lamS_by (by rfl)) rfl (fun _ _ _ _ _ => rfl)
          (fun A outer s H E f c' hr' => pe_makeK0 (ks := ["places", "lefts", "rights"]) mk okI hr' rfl mC kb (passes_call (takes_of rfl rfl rfl rfl) (fun _ _ _ _ h => h)) (pk_cons (pv 3) (pk_cons (pv 2) (pk_cons (pv 1) pk_nil))))) (pv 4) (nomark _)) (pss_one (ps_ret pe_bl)) pss_nil)
      (pss_cons (ps_set (i := 5) nd rfl (Or.inl rfl) (pe_lst (pa_cons (pe_smK cN hr (by decide) (pe_glob (v := .ref C) (by rfl) mC rfl) (pv 3) (pv 2) (pv 1)) (pa_cons (pe_sm cS hr (by decide) (pv 0) (pa_cons (pv 1) (pa_cons (pv 2) (pa_cons (pv 3) pa_nil)))) pa_nil))))
      (pss_one (ps_ret (pe_cmpR op_eq (pe_callB (call_reprD hgd hr.units) (by rfl) B.repr (by decide +kernel) (pa_cons (pv 5) pa_nil)) (pe_callB (call_reprD hgd hr.units) (by rfl) B.repr (by decide +kernel) (pa_cons (pe_op op_rep (pe_lst (pa_cons (pe_cmpR (op_eqD hr.units) (pv 4) (pe_lst pa_nil) (nomark _)) pa_nil)) pe_int) pa_nil)) (nomark _))))))), ?_⟩
    have dueD : ∃ ds : List PyData, (∀ H' : Hp, DpAll K H' (dueO o1 o2 o3) ds) ∧ SeqAt.shaped (.list ds) = true ∧ PyData.eqv (.list ds) (.list ds) = true ∧ PyData.eqv (.list ds) (.list []) = decide (partO o1 o2 o3 = .non) := by
      rcases due_data o1 o2 o3 with ⟨e, e2⟩ | ⟨ps, e, e2, e3, e4⟩
      · refine ⟨[], fun H' => ?_, rfl, rfl, ?_⟩
        · rw [e2]
          exact .nil
        · rw [e]
          rfl
      · refine ⟨[.str ps], fun H' => ?_, e3, e4, ?_⟩
        · rw [e2]
          exact .cons (.str _) .nil
        · rw [e, decide_eq_false (by intro z; cases z)]
          rfl
    obtain ⟨ds, hds, sh, eq1, eq2⟩ := dueD
    refine ⟨_, rfl, _, rfl, _, rfl, G, x, y, z, o1, o2, o3, rfl, sG, hx, hy, hz, fun p hp => ?_⟩
    have s1 : Same H (upd H p (.lst (dueO o1 o2 o3))) := Same.new hp
    refine ⟨tT.ext s1, fun H2 ext t2 E2 N hN hE => ?_⟩
    have S2 : Same G H2 := fun b o e => ext b o (s1 b o (sG b o e)) fun ps z => nT b ps (z ▸ e)
    have p2at : H2 p = some (.lst (dueO o1 o2 o3)) := ext p _ upd_same (fun ps z => by cases z)
    refine ⟨_, rfl, _, rfl, _, rfl, rfl, rfl, fun a dx na ndx nad => ?_⟩
    have up2 : Same H2 (upd (upd H2 dx (.own a)) a (.ins C dx [])) := (Same.new ndx).trans (Same.new (by rw [upd_ne nad.symm]; exact na))
    refine ⟨G, a, dx, x, y, z, o1, o2, o3, rfl, S2.trans up2, S2.free na, upd_same, hx, hy, hz, fun r l k e1 e2 e3 b1 b2 b3 b4 b5 b6 t' G' H' _ _ keep _ _ _ _ => ⟨rfl, hN _ _ fun q hq => ?_⟩, fun ps e d hd => hE _ _ _ ⟨rfl, d, .str ps, rfl, upd_same, fun a2 q na2 nq => ?_⟩⟩
    · have S5 : Same H2 (upd H' q (.lst [])) := fun b o e => by
        have nb : b ≠ a := ne_of_none e na
        have e1 := keep b o (up2 b o e) nb
        rw [upd_ne (ne_of_none e1 hq)]
        exact e1
      have hq5 : (upd H' q (.lst [])) q = some (.lst []) := upd_same
      have de : dueO o1 o2 o3 = [] := by
        unfold dueO
        rw [e1, e2, e3, part_good b1 b2 b3 b4 b5 b6]
      have hd0 : ∀ H' : Hp, DpAll K H' [] ds := fun H' => de ▸ hds H'
      refine ⟨_, rfl, .list ds, .list ds, .lst (SqL.of hq5) (hd0 _), .lst (SqL.of (S5 _ _ p2at)) (hds _), sh, sh, _, rfl, ?_⟩
      rw [eq1]
      refine iteF ?_
      refine ⟨rfl, _, rfl, _, rfl, _, rfl, _, _, _, rfl, G, x, y, z, o1, o2, o3, rfl, S2.trans S5, hx, hy, hz, ?_⟩
      refine ⟨_, rfl, .inr ⟨rd, dr, fs, rfl, (S2.trans S5) _ _ hrd, hfs⟩, _, rfl, _, rfl, _, rfl, G, x, y, z, o1, o2, o3, rfl, S2.trans S5, hx, hy, hz, ?_⟩
      obtain ⟨bb, hbb⟩ : ∃ bb, decide (partO o1 o2 o3 = .non) = bb := ⟨_, rfl⟩
      rw [hbb]
      have eq3 : PyData.eqv (.list ds) (.list []) = bb := eq2.trans hbb
      obtain ⟨b1, b2, b3, b4⟩ := two_bools bb
      refine ⟨(by show 2 ≤ sizeLine; decide), fun L hL => ?_⟩
      have S6 := S5.trans (Same.new (o := .lst [.bl bb, .bl bb]) hL)
      refine ⟨_, rfl, L, .list [.bool bb, .bool bb], rfl, .lst (SqL.of upd_same) (.cons (.bl _) (.cons (.bl _) .nil)), b1, b2, b3, b4, ?_⟩
      refine ⟨_, rfl, (by show 0 ≤ sizeLine; decide), fun L2 hL2 => ?_⟩
      have S7 := S6.trans (Same.new (o := .lst []) hL2)
      refine ⟨.list ds, .list [], .lst (SqL.of (S7 _ _ p2at)) (hds _), .lst (SqL.of upd_same) .nil, sh, rfl, ?_⟩
      rw [eq3]
      refine ⟨(by show 1 ≤ sizeLine; decide), fun L3 hL3 => ⟨L3, 2, [.bl bb], rfl, rfl, upd_same, by decide, by decide, (by show 1 * 2 ≤ sizeLine; decide), fun L4 hL4 => ?_⟩⟩
      have S8 := (S7.trans (Same.new (o := .lst [.bl bb]) hL3)).trans (Same.new (o := .lst (List.replicate (2 : Int).toNat [V.bl bb]).flatten) hL4)
      refine ⟨L4, .list [.bool bb, .bool bb], rfl, .lst (SqL.of upd_same) (.cons (.bl _) (.cons (.bl _) .nil)), b1, b2, b3, b4, rfl, ?_⟩
      rw [decide_eq_true rfl]
      exact fin _ (((ExtN.of s1).trans ext).trans (ExtN.of S8)) (t2.ext S8)
    · have S5 : Same H2 (upd (upd (upd (upd (upd H2 dx (.own a)) a (.ins C dx [])) d (.xd [(x_fld, .str ps)])) a2 (XO (.ref CE) (some d) a2)) q (.lst [.str ps])) := ((up2.trans (Same.new hd)).trans (Same.new na2)).trans (Same.new nq)
      have hq5 : (upd (upd (upd (upd (upd H2 dx (.own a)) a (.ins C dx [])) d (.xd [(x_fld, .str ps)])) a2 (XO (.ref CE) (some d) a2)) q (.lst [.str ps])) q = some (.lst [.str ps]) := upd_same
      have de : dueO o1 o2 o3 = [.str ps] := by
        unfold dueO
        rw [e]
      have hd0 : ∀ H' : Hp, DpAll K H' [.str ps] ds := fun H' => de ▸ hds H'
      refine ⟨_, rfl, .list ds, .list ds, .lst (SqL.of hq5) (hd0 _), .lst (SqL.of (S5 _ _ p2at)) (hds _), sh, sh, _, rfl, ?_⟩
      rw [eq1]
      refine iteF ?_
      refine ⟨rfl, _, rfl, _, rfl, _, rfl, _, _, _, rfl, G, x, y, z, o1, o2, o3, rfl, S2.trans S5, hx, hy, hz, ?_⟩
      refine ⟨_, rfl, .inr ⟨rd, dr, fs, rfl, (S2.trans S5) _ _ hrd, hfs⟩, _, rfl, _, rfl, _, rfl, G, x, y, z, o1, o2, o3, rfl, S2.trans S5, hx, hy, hz, ?_⟩
      obtain ⟨bb, hbb⟩ : ∃ bb, decide (partO o1 o2 o3 = .non) = bb := ⟨_, rfl⟩
      rw [hbb]
      have eq3 : PyData.eqv (.list ds) (.list []) = bb := eq2.trans hbb
      obtain ⟨b1, b2, b3, b4⟩ := two_bools bb
      refine ⟨(by show 2 ≤ sizeLine; decide), fun L hL => ?_⟩
      have S6 := S5.trans (Same.new (o := .lst [.bl bb, .bl bb]) hL)
      refine ⟨_, rfl, L, .list [.bool bb, .bool bb], rfl, .lst (SqL.of upd_same) (.cons (.bl _) (.cons (.bl _) .nil)), b1, b2, b3, b4, ?_⟩
      refine ⟨_, rfl, (by show 0 ≤ sizeLine; decide), fun L2 hL2 => ?_⟩
      have S7 := S6.trans (Same.new (o := .lst []) hL2)
      refine ⟨.list ds, .list [], .lst (SqL.of (S7 _ _ p2at)) (hds _), .lst (SqL.of upd_same) .nil, sh, rfl, ?_⟩
      rw [eq3]
      refine ⟨(by show 1 ≤ sizeLine; decide), fun L3 hL3 => ⟨L3, 2, [.bl bb], rfl, rfl, upd_same, by decide, by decide, (by show 1 * 2 ≤ sizeLine; decide), fun L4 hL4 => ?_⟩⟩
      have S8 := (S7.trans (Same.new (o := .lst [.bl bb]) hL3)).trans (Same.new (o := .lst (List.replicate (2 : Int).toNat [V.bl bb]).flatten) hL4)
      refine ⟨L4, .list [.bool bb, .bool bb], rfl, .lst (SqL.of upd_same) (.cons (.bl _) (.cons (.bl _) .nil)), b1, b2, b3, b4, rfl, ?_⟩
      rw [decide_eq_true rfl]
      exact fin _ (((ExtN.of s1).trans ext).trans (ExtN.of S8)) (t2.ext S8)
end
end W2

set_option maxHeartbeats 400000
namespace W2
open PySem PySem.Spec PyProof.Rows L2 Pg Pf LamX
section
variable {X : Cx} {CX : CXT} {k i : Nat} {f C : Addr} {fd : FuncData} {ps : List Str} {sp : Sp} {dvs : List V} {ds : List Value} {E : XK} {x : Str} {p pos : Pos} {e : Expr} {es : List Expr} {t : TA}
/-- a class that a local name holds, called -/
theorem pe_mkvar (M : Mk X.K C f) (F : FnOk X.prog X.w X.K X.mg X.base CX k f fd ps sp) (hr : Room (k + 1) X.A) (hN : X.N[i]? = some x) (hv : Vis X.env.scope x) (hb : Binds X.K fd ps ds) (hd : Vals dvs ds) (hx : Passes CX X E) (ha : PA X (e :: es) t)
    (hdb : (x == ("__debug__" : Str)) = false := by decide) (hcd : (x == ("__classdict__" : Str)) = false := by decide) (he : starEach (e :: es) X.env = (false, eval e X.env) :: starEach es X.env := by rfl) (hpl : (backTo pos (starEach es X.env)).any (·.1) = false := by rfl) :
    PE X (.Call (.Name x p) (e :: es) [] pos) (fun σ H Q => σ[i]? = some (some (.ref C)) ∧ tMake C sp dvs E t σ H Q) := by
  refine ⟨fun pins s σ H Q I ⟨at_, h⟩ => ?_⟩
  refine wpAny_Call_Name_kw (thn ((pe_var (pos := p) (i := i) hN hv hdb hcd).run pins s σ H (fun v H1 => v = .ref C ∧ H1 = H) I ⟨.ref C, at_, rfl, rfl⟩) fun u s1 ⟨v, H1, I1, r1, ev, eH⟩ => ?_)
  subst ev
  rw [eH] at I1
  obtain rfl : u = Value.ref C := r1
  exact PySem.W.callWith_K (h₀ := X.base) I1.ok.mod.kin M.kp (thn (ha.run pos pins s1 σ H _ I1 h) fun us s2 ⟨vs, H2, I2, r, q⟩ => ⟨I2.kIn, run_make M F hr hb hd hx I2 r q⟩) he hpl
end
abbrev s_square : Stmt := inClass (top 10) 4
abbrev N_square : List Str := ["cls", "walkers"]
theorem sc_square : FnScope N_square ["cls", "walkers"] (defScope s_square) := ⟨rfl, rfl, rfl, by decide +kernel, rfl, by decide +kernel, by decide +kernel⟩
def spSq (K : PySem.W.Frag) (C CE : Addr) : Sp := fun vs H Q E => ∃ x : V, vs = [.ref C, x] ∧ ∀ a dx, H a = none → H dx = none → dx ≠ a → spInitX K C CE [.ref a, x, x, x] (upd (upd H dx (.own a)) a (.ins C dx [])) (fun v H2 => v = .non ∧ Q (.ref a) H2) E
section
variable {P : Program} {w : World} {K : PySem.W.Frag} {mg : Str → Option Value} {base : Heap} {f C CE fI : Addr} {fd fdI : FuncData}
theorem ok_square (mk : Mk K C fI) (okI : FnOk P w K mg base (L2.CX P w) 4 fI fdI ["self", "rights", "lefts", "places"] (spInitX K C CE)) (bI : Binds K fdI ["self", "rights", "lefts", "places"] []) (F : Fun K "square" "Way.square" s_square f fd) : FnOk P w K mg base (L2.CX P w) 6 f fd ["cls", "walkers"] (spSq K C CE) := by
  refine F.okX sc_square (fun vs H Q E h => ?_) (fun cdv A outer s H vs Q E hr h => ?_)
  · obtain ⟨x, rfl, _⟩ := h
    rfl
  · obtain ⟨x, rfl, q⟩ := h
    refine ⟨_, pss_one (ps_ret (pe_mkvar (i := 0) mk okI hr rfl (Or.inl rfl) bI .nil (passes_call (takes_of rfl rfl rfl rfl) (fun _ _ _ _ h => h)) (pa_cons (pv 1) (pa_cons (pv 1) (pa_cons (pv 1) pa_nil))))), ?_⟩
    exact ⟨rfl, _, rfl, _, rfl, _, rfl, q⟩
end
end W2

set_option maxHeartbeats 400000
namespace W2
open PySem PySem.Spec PyProof.Rows L2 Pg Pf LamX
section
variable {X : Cx} {CX : CXT} {k : Nat} {C p g : Addr} {mc : Value} {sp : Sp} {E : XK} {fd : FuncData} {a1 a2 : Str} {o e1 : Expr} {m key : Str} {pos apos q1 : Pos} {ta t1 : TE} {pl : Sem Bool}
/-- a class method called on the class by its one name -/
theorem pe_cmK (he : PE X o ta) (r : ClX.CRead X.K C mc) (c : ClX.CMet X.K C mc m p g) (F : FnOk X.prog X.w X.K X.mg X.base CX k g fd [a1, a2] sp) (hr : Room k X.A) (hx : Passes CX X E) (h1 : PE X e1 t1) (hb : ∀ (s : Shared) (u v : Value), BindsTo s fd ⟨[u], [(key, v)]⟩ [(a1, u), (a2, v)])
    (hpl : ((backTo pos (starEach [] X.env)).any (·.1) || (backToKw pos (keywordEach [⟨some key, e1, q1⟩] X.env)).any (·.1.isNone)) = false := by rfl) (hall : (backToKw pos (keywordEach [⟨some key, e1, q1⟩] X.env)).all (·.1.isSome) = true := by rfl)
    (ht : eval (.Call (.Attribute o m apos) [] [⟨some key, e1, q1⟩] pos) X.env = (do
      let ov ← eval o X.env
      standAt apos.atName
      let (f, first) ← holding [ov] (getMethod ov m pl)
      callWith pos f first (backTo pos (starEach [] X.env)) (backToKw pos (keywordEach [⟨some key, e1, q1⟩] X.env))) := by rfl) :
    PE X (.Call (.Attribute o m apos) [] [⟨some key, e1, q1⟩] pos) (ClX.tCMeth C sp E ta (tCons t1 tNil)) := by
  refine ⟨fun pins s σ H Q I h => ?_⟩
  refine PySem.W.methodCall_KW (pl := pl) (thn (he.run pins s σ H _ I h) fun u s1 ⟨x, H1, I1, rx, ex, q⟩ => ?_) ht
  subst ex
  obtain rfl : u = Value.ref C := rx
  refine ClX.getmethcm_ok I1 r c fun s2 I2 => ?_
  refine PySem.W.callWith_of (P := PySem.W.MethP X.K s1.heap.objs.size g (.ref C)) hpl (PySem.W.keeps_M c.fi) (evalArgs_kw2_nil hall ?_)
  refine thn ((pk_cons h1 pk_nil).run pos _ s2 σ H1 _ I2 q) fun ws s3 ⟨zs, H3, I3, rz, q3⟩ => ⟨⟨ClX.pin_at I3, I3.kIn⟩, ?_⟩
  have hl := F.len _ _ _ _ q3
  cases rz with
  | nil => cases hl
  | @cons y w1 _ _ r1 rz =>
  cases rz with
  | cons _ _ => cases hl
  | nil =>
  have z : wpAny (model X.prog X.w) X.A (call (.ref s1.heap.objs.size) [] [(key, w1)]) (EP X ((s1.heap.objs.size, PySem.W.methodObj (.ref g) (.ref C)) :: pins) σ Q) X.xe s3 :=
    wpAny_call (PySem.W.method_call (ClX.pin_at I3) (codeAny_mono (F.run X.A X.stack s3 H3 ⟨[.ref C], [(key, w1)]⟩ [.ref C, w1] [.ref C, y] Q E hr I3.env0 (hb s3 _ _) (.cons rfl (.cons r1 .nil)) q3) fun r s' hq => by
      cases r with
      | error e => exact hx _ σ H3 s3 e s' I3 hq
      | ok fl =>
        cases fl with
        | ret u => exact I3.after hq
        | next => exact False.elim hq
        | brk => exact False.elim hq
        | cont => exact False.elim hq))
  exact thn z fun _ _ y => ClX.unpinE y
end
end W2

set_option maxHeartbeats 800000
namespace W2
open PySem PySem.Spec PyProof.Rows L2 Pg Pf LamX
abbrev s__law_doubled : Stmt := top 18
abbrev N__law_doubled : List Str := ["_law_kind", "_law_found", "_law_n"]
theorem sc__law_doubled : FnScope N__law_doubled ["_law_kind"] (defScope s__law_doubled) := ⟨rfl, rfl, rfl, by decide +kernel, rfl, by decide +kernel, by decide +kernel⟩
def spDoubled (K : PySem.W.Frag) : Sp := fun vs H Q _ => ∃ (G : Hp) (kd : Nat), vs = [.int (kd : Nat)] ∧ kd < 2 ∧ Same G H ∧ ∀ (a : Addr) (G' H' : Hp), Fut G H G' H' → (NoT G → NoT G') → Vk K G' (.ref a) none → Q (.ref a) H'
theorem NoT.put {G : Hp} {p : Addr} {o : HO} (h : NoT G) (ho : ∀ ps, o ≠ .tbl ps) : NoT (upd G p o) := fun b ps e => by
  by_cases z : b = p
  · rw [z, upd_same] at e
    exact ho ps (Option.some.inj e)
  · rw [upd_ne z] at e
    exact h b ps e
theorem vk_tup {K : PySem.W.Frag} {G : Hp} {a : Addr} {xs : List V} (h : G a = some (.tup xs)) : Vk K G (.ref a) none := .oth (.base (.tup h)) (kit_ty (by decide +kernel)) (kit_ty (by decide +kernel))
theorem vk_lst {K : PySem.W.Frag} {G : Hp} {a : Addr} {xs : List V} (h : G a = some (.lst xs)) : Vk K G (.ref a) none := .oth (.base (.lst h)) (kit_ty (by decide +kernel)) (kit_ty (by decide +kernel))
section
variable {P : Program} {w : World} {K : PySem.W.Frag} {mg : Str → Option Value} {base : Heap} {f : Addr} {fd : FuncData}
theorem ok_doubled (B : Bt mg) (F : Fun K "_law_doubled" "_law_doubled" s__law_doubled f fd) : FnG P w K mg base 2 f fd ["_law_kind"] (spDoubled K) := by
  refine okG F sc__law_doubled (fun vs H Q E h => ?_) (fun cdv A outer s H vs Q E hr hgd h => ?_)
  · obtain ⟨G, kd, rfl, _⟩ := h
    rfl
  · obtain ⟨G, kd, rfl, hk, sG, fin⟩ := h
    have nd := sc__law_doubled.nd
    refine ⟨_, (pss_cons (ps_set (i := 1) nd rfl (Or.inl rfl) (pe_tup pa_nil))
      (pss_cons (ps_for PassesOwn.never rfl (pi_range1 rfl B.range (pa_cons pe_int pa_nil)) (pg_name (i := 2) nd rfl (Or.inl rfl))
      (pss_one (ps_set (i := 1) nd rfl (Or.inl rfl) (pe_ix ix_list (pe_lst (pa_cons (pe_tup (pa_cons (pv 1) (pa_cons (pv 1) pa_nil))) (pa_cons (pe_lst (pa_cons (pv 1) (pa_cons (pv 1) pa_nil))) pa_nil))) (pv 0) (fun _ _ => rfl)))))
      (pss_one (ps_ret (pv 1))))), ?_⟩
    refine ⟨(by show 0 ≤ sizeLine; decide), fun p0 hp0 => ?_⟩
    have f0 := Fut.new (o := .tup []) sG hp0
    refine ⟨60, rfl, by decide, by decide, for_range (lo := 0) (n := 60) (fun i σ H2 => ∃ (G2 : Hp) (a : Addr) (v2 : Option V), σ = [some (.int (kd : Nat)), some (.ref a), v2] ∧ Fut G H G2 H2 ∧ (NoT G → NoT G2) ∧ Vk K G2 (.ref a) none) ⟨_, p0, none, rfl, f0, fun y => y.put (fun _ z => by cases z), vk_tup upd_same⟩ ?_ ?_⟩
    · rintro i σ H2 hi ⟨G2, a, v2, rfl, f2, nt, hv⟩
      refine ⟨_, rfl, _, rfl, (by show 2 ≤ sizeLine; decide), fun p1 hp1 => ⟨_, rfl, _, rfl, (by show 2 ≤ sizeLine; decide), fun p2 hp2 => ⟨(by show 2 ≤ sizeLine; decide), fun p3 hp3 => ?_⟩⟩⟩
      have f3 := f2.trans (Fut.new (o := .tup [.ref a, .ref a]) f2.s hp1)
      have f4 := f3.trans (Fut.new (o := .lst [.ref a, .ref a]) f3.s hp2)
      have f5 := f4.trans (Fut.up f4.s (Same.new (o := .lst [.ref p1, .ref p2]) hp3))
      have t1 : (upd (upd G2 p1 (.tup [.ref a, .ref a])) p2 (.lst [.ref a, .ref a])) p1 = some (.tup [.ref a, .ref a]) := by
        rw [upd_ne (ne_of_none upd_same hp2)]
        exact upd_same
      match kd, hk with
      | 0, _ =>
        refine ⟨_, rfl, p3, _, _, _, rfl, rfl, SqL.of upd_same, atI_nat (j := 0) rfl, ?_⟩
        exact ⟨_, p1, _, rfl, f5, fun y => ((nt y).put (fun _ z => by cases z)).put (fun _ z => by cases z), vk_tup t1⟩
      | 1, _ =>
        refine ⟨_, rfl, p3, _, _, _, rfl, rfl, SqL.of upd_same, atI_nat (j := 1) rfl, ?_⟩
        exact ⟨_, p2, _, rfl, f5, fun y => ((nt y).put (fun _ z => by cases z)).put (fun _ z => by cases z), vk_lst upd_same⟩
    · rintro σ H2 ⟨G2, a, v2, rfl, f2, nt, hv⟩
      exact ⟨_, rfl, fin a G2 H2 f2 nt hv⟩
end
end W2

set_option maxHeartbeats 800000
namespace W2
open PySem PySem.Spec PyProof.Rows L2 Pg Pf LamX
/-- a way made of three values, within a lambda that is handed to the def that tells the part -/
theorem tl_make {K : PySem.W.Frag} {C CE : Addr} {G H2 : Hp} {x y z : V} {o1 o2 o3 : Option Int} {Q : VK} {E : XK} {N : VK} (S2 : Same G H2) (hx : Vk K G x o1) (hy : Vk K G y o2) (hz : Vk K G z o3)
    (k : ∀ q H', Same H2 H' → H' q = some (.lst (dueO o1 o2 o3)) → Q (.ref q) H') (hN : ∀ v H', (∀ p, H' p = none → Q (.ref p) (upd H' p (.lst []))) → N v H') (hE : ∀ cls d H', EPart K CE Q cls d H' → E cls d H') :
    ∀ a dx, H2 a = none → H2 dx = none → dx ≠ a → spInitX K C CE [.ref a, x, y, z] (upd (upd H2 dx (.own a)) a (.ins C dx [])) (fun v H3 => v = .non ∧ N (.ref a) H3) E := by
  intro a dx na ndx nad
  have up2 : Same H2 (upd (upd H2 dx (.own a)) a (.ins C dx [])) := (Same.new ndx).trans (Same.new (by rw [upd_ne nad.symm]; exact na))
  refine ⟨G, a, dx, x, y, z, o1, o2, o3, rfl, S2.trans up2, S2.free na, upd_same, hx, hy, hz, fun r l m e1 e2 e3 b1 b2 b3 b4 b5 b6 t' G' H' _ _ keep _ _ _ _ => ⟨rfl, hN _ _ fun q hq => ?_⟩, fun ps e d hd => hE _ _ _ ⟨rfl, d, .str ps, rfl, upd_same, fun a2 q na2 nq => ?_⟩⟩
  · have de : dueO o1 o2 o3 = [] := by
      unfold dueO
      rw [e1, e2, e3, part_good b1 b2 b3 b4 b5 b6]
    refine k q _ (fun b o e => ?_) (by rw [upd_same, de])
    have w1 := keep b o (up2 b o e) (ne_of_none e na)
    rw [upd_ne (ne_of_none w1 hq)]
    exact w1
  · have de : dueO o1 o2 o3 = [.str ps] := by
      unfold dueO
      rw [e]
    exact k q _ (((up2.trans (Same.new hd)).trans (Same.new na2)).trans (Same.new nq)) (by rw [upd_same, de])
theorem sameX {G H H' : Hp} (n : NoT G) (s : Same G H) (x : ExtN H H') : Same G H' := fun b o e => x b o (s b o e) fun ps z => n b ps (z ▸ e)
theorem tabs_put {T : List (Addr × Str)} {H : Hp} {L : Addr} {xs ys : List V} (t : Tabs T H) (h : H L = some (.lst xs)) : Tabs T (upd H L (.lst ys)) := fun p hp => by
  obtain ⟨ps, h1, h2, h3⟩ := t p hp
  refine ⟨ps, by rw [upd_ne (ne_of h1 h (by intro z; cases z))]; exact h1, h2, fun pos cv hc => ?_⟩
  obtain ⟨c, e1, e2⟩ := h3 pos cv hc
  exact ⟨c, e1, by rw [upd_ne (ne_of e2 h (by intro z; cases z))]; exact e2⟩
abbrev s__law_doubled_right : Stmt := top 25
abbrev N__law_doubled_right : List Str := ["_law_way_here", "_law_told", "_law_far"]
theorem sc__law_doubled_right : FnScope N__law_doubled_right [] (defScope s__law_doubled_right) := ⟨rfl, rfl, rfl, by decide +kernel, rfl, by decide +kernel, by decide +kernel⟩
def spDblRight (T : List (Addr × Str)) : Sp := fun vs H Q _ => ∃ G : Hp, vs = [] ∧ Same G H ∧ NoT G ∧ Tabs T H ∧ ∀ H', ExtN H H' → Tabs T H' → Q (.bl true) H'
section
variable {P : Program} {w : World} {K : PySem.W.Frag} {mg : Str → Option Value} {base : Heap} {f C CE c Pt fI pS gS : Addr} {fd fdI : FuncData} {T : List (Addr × Str)} {mc : Value}
theorem ok_dbl_right (B : Bt mg) (cU : CalG P w K mg base 2 "_law_doubled" (spDoubled K)) (cS : Sm P w K mg base 4 C "is_size" (spSizeD K)) (L : Lp K mg CE) (mk : Mk K C fI) (okI : FnOk P w K mg base (L2.CX P w) 4 fI fdI ["self", "rights", "lefts", "places"] (spInitX K C CE)) (bI : Binds K fdI ["self", "rights", "lefts", "places"] []) (mC : mg "Way" = some (.ref C))
    (rd : ClX.CRead K C mc) (cm : ClX.CMet K C mc "square" pS gS) (okS : FnR P w K mg base (L2.CX P w) 6 gS (spSq K C CE)) (F : FunT K mg base T "_law_doubled_right" s__law_doubled_right f fd c Pt) : FnG P w K mg base 10 f fd [] (spDblRight T) := by
  obtain ⟨g, dV, kV, doc, pm, cdv, ct, oc, an, od, osl, mg1, kp1, lk1, cd1, bd1⟩ := L.ex
  refine okT F sc__law_doubled_right (fun vs H Q E h => ?_) (fun A outer s H vs Q E hr hgd h => ?_)
  · obtain ⟨G, rfl, _⟩ := h
    rfl
  · obtain ⟨G, rfl, sG, nT, tT, fin⟩ := h
    have nd := sc__law_doubled_right.nd
    refine ⟨_, (pss_cons (ps_for PassesOwn.never rfl (pi_range1 rfl B.range (pa_cons pe_int pa_nil)) (pg_name (i := 0) nd rfl (Or.inl rfl))
      (pss_cons (ps_set (i := 2) nd rfl (Or.inr rfl) (pe_cG cU hr (by decide) hgd rfl (pa_cons (pv 0) pa_nil)))
      (pss_cons (ps_set (i := 1) nd rfl (Or.inl rfl) (pe_lst (pa_cons (pe_lamcall (T := T) (TT := TPart K CE) (a := "_law_call") (Ng := N__law_part) (k := 6) (t := fun E => tMake C (spInitX K C CE) [] E (tCons (tVar 2) (tCons (tVar 2) (tCons (tVar 2) tNil)))) rfl mg1 kp1 lk1 cd1 bd1 sc__law_part rfl (Or.inl rfl) (part_gives L.xf L.no L.gl L.em) F.tb rfl F.mem F.uni (hr.mono (by decide)) (lamS_by (by rfl)) rfl (fun _ _ _ _ _ => rfl) (fun A outer s H E f c' hr' => pe_make mk okI (hr'.mono (by decide)) rfl mC bI .nil (passes_call (takes_of rfl rfl rfl rfl) (fun _ _ _ _ h => h)) (pa_cons (pv 2) (pa_cons (pv 2) (pa_cons (pv 2) pa_nil))))) pa_nil)))
      (pss_cons (ps_expr (pe_bm PySem.F.plainAttrs_list PySem.F.slot_list_append PySem.F.type_list_append mt_append (pv 1) (pa_cons (pe_lamcall (T := T) (TT := TPart K CE) (a := "_law_call") (Ng := N__law_part) (k := 6) (t := fun E => tMake C (spInitX K C CE) [] E (tCons (tC (.int 1)) (tCons (tVar 2) (tCons (tVar 2) tNil)))) rfl mg1 kp1 lk1 cd1 bd1 sc__law_part rfl (Or.inl rfl) (part_gives L.xf L.no L.gl L.em) F.tb rfl F.mem F.uni (hr.mono (by decide)) (lamS_by (by rfl)) rfl (fun _ _ _ _ _ => rfl) (fun A outer s H E f c' hr' => pe_make mk okI (hr'.mono (by decide)) rfl mC bI .nil (passes_call (takes_of rfl rfl rfl rfl) (fun _ _ _ _ h => h)) (pa_cons pe_int (pa_cons (pv 2) (pa_cons (pv 2) pa_nil))))) pa_nil)))
      (pss_cons (ps_expr (pe_bm PySem.F.plainAttrs_list PySem.F.slot_list_append PySem.F.type_list_append mt_append (pv 1) (pa_cons (pe_lamcall (T := T) (TT := TPart K CE) (a := "_law_call") (Ng := N__law_part) (k := 6) (t := fun E => tMake C (spInitX K C CE) [] E (tCons (tC (.int 1)) (tCons (tC (.int 6)) (tCons (tVar 2) tNil)))) rfl mg1 kp1 lk1 cd1 bd1 sc__law_part rfl (Or.inl rfl) (part_gives L.xf L.no L.gl L.em) F.tb rfl F.mem F.uni (hr.mono (by decide)) (lamS_by (by rfl)) rfl (fun _ _ _ _ _ => rfl) (fun A outer s H E f c' hr' => pe_make mk okI (hr'.mono (by decide)) rfl mC bI .nil (passes_call (takes_of rfl rfl rfl rfl) (fun _ _ _ _ h => h)) (pa_cons pe_int (pa_cons pe_int (pa_cons (pv 2) pa_nil))))) pa_nil)))
      (pss_cons (ps_expr (pe_bm PySem.F.plainAttrs_list PySem.F.slot_list_append PySem.F.type_list_append mt_append (pv 1) (pa_cons (pe_lamcall (T := T) (TT := TPart K CE) (a := "_law_call") (Ng := N__law_part) (k := 6) (t := fun E => ClX.tCMeth C (spSq K C CE) E (tC (.ref C)) (tCons (tVar 2) tNil)) rfl mg1 kp1 lk1 cd1 bd1 sc__law_part rfl (Or.inl rfl) (part_gives L.xf L.no L.gl L.em) F.tb rfl F.mem F.uni (hr.mono (by decide)) (lamS_by (by rfl)) rfl (fun _ _ _ _ _ => rfl) (fun A outer s H E f c' hr' => ClX.pe_cmeth (pe_glob (v := .ref C) (by rfl) mC rfl) rd cm okS hr' (passes_call (takes_of rfl rfl rfl rfl) (fun _ _ _ _ h => h)) (pa_cons (pv 2) pa_nil))) pa_nil)))
      (pss_cons (ps_if (pt_cmpR (op_neD hr.units) (pv 1) (pe_lst (pa_cons (pe_lst (pa_cons pe_str pa_nil)) (pa_cons (pe_lst (pa_cons pe_str pa_nil)) (pa_cons (pe_lst (pa_cons pe_str pa_nil)) (pa_cons (pe_lst (pa_cons pe_str pa_nil)) pa_nil))))) (nomark _)) (pss_one (ps_ret pe_bl)) pss_nil)
      (pss_one (ps_if (pt_cmpR (op_neD hr.units) (pe_lst (pa_cons (pe_sm cS hr (by decide) (pe_glob (v := .ref C) (by rfl) mC rfl) (pa_cons (pv 2) (pa_cons pe_int (pa_cons pe_int pa_nil)))) (pa_cons (pe_sm cS hr (by decide) (pe_glob (v := .ref C) (by rfl) mC rfl) (pa_cons pe_int (pa_cons (pv 2) (pa_cons pe_int pa_nil)))) (pa_cons (pe_sm cS hr (by decide) (pe_glob (v := .ref C) (by rfl) mC rfl) (pa_cons pe_int (pa_cons pe_int (pa_cons (pv 2) pa_nil)))) pa_nil)))) (pe_op op_rep (pe_lst (pa_cons pe_bl pa_nil)) pe_int) (nomark _)) (pss_one (ps_ret pe_bl)) pss_nil)))))))))
      (pss_one (ps_ret pe_bl))), ?_⟩
    refine ⟨2, rfl, by decide, by decide, for_range (lo := 0) (n := 2) (fun i σ H3 => ∃ v0 v1 v2, σ = [v0, v1, v2] ∧ ExtN H H3 ∧ Tabs T H3) ⟨none, none, none, rfl, ExtN.refl H, tT⟩ ?_ ?_⟩
    · rintro i σ H3 hi ⟨v0, v1, v2, rfl, x3, t3⟩
      refine ⟨_, rfl, G, i, by rw [Int.zero_add], by omega, sameX nT sG x3, fun a G4 H4 f4 nt4 hv => ?_⟩
      have nT4 := nt4 nT
      have h1 : Vk K G4 (.int 1) (some 1) := .int 1
      have h6 : Vk K G4 (.int 6) (some 6) := .int 6
      have d1 : dueO none none none = [.str "rights"] := rfl
      have d2 : dueO (some 1) none none = [.str "lefts"] := rfl
      have d3 : dueO (some 1) (some 6) none = [.str "places"] := rfl
      refine ⟨t3.ext f4.h, fun H5 x5 t5 E5 N5 n5 e5 => ⟨_, rfl, _, rfl, _, rfl, tl_make (sameX nT4 f4.s x5) hv hv hv (fun q1 H6 s6 a1 => ?_) n5 e5⟩⟩
      refine ⟨(by show 1 ≤ sizeLine; decide), fun L hL => ?_⟩
      have g6 : Same G4 H6 := (sameX nT4 f4.s x5).trans s6
      have gL : G4 L = none := g6.free hL
      have b7 : (upd H6 L (.lst [.ref q1])) L = some (.lst [.ref q1]) := upd_same
      have a7 : (upd H6 L (.lst [.ref q1])) q1 = some (.lst (dueO none none none)) := by
        rw [upd_ne (ne_of_none a1 hL)]
        exact a1
      have t7 : Tabs T (upd H6 L (.lst [.ref q1])) := (t5.ext s6).ext (Same.new hL)
      have g7 : Same G4 (upd H6 L (.lst [.ref q1])) := g6.trans (Same.new hL)
      have x7 : ExtN H4 (upd H6 L (.lst [.ref q1])) := x5.trans (ExtN.of (s6.trans (Same.new hL)))
      generalize (upd H6 L (.lst [.ref q1])) = H7 at b7 a7 t7 g7 x7 ⊢
      refine ⟨_, rfl, .inl ⟨rfl, _, SqL.of b7⟩, t7, fun H8 x8 t8 E8 N8 n8 e8 => ⟨_, rfl, _, rfl, tl_make (sameX nT4 g7 x8) h1 hv hv (fun q2 H9 s9 a9 => ?_) n8 e8⟩⟩
      have gB : Same G4 H9 := (sameX nT4 g7 x8).trans s9
      have bB : H9 L = some (.lst [.ref q1]) := s9 _ _ (x8 _ _ b7 (fun ps z => by cases z))
      have aB : H9 q1 = some (.lst (dueO none none none)) := s9 _ _ (x8 _ _ a7 (fun ps z => by cases z))
      refine ⟨L, [.ref q1], _, rfl, rfl, bB, (by show 1 < sizeLine; decide), ?_⟩
      have n1 : q1 ≠ L := ne_of_none a1 hL
      have q2L : q2 ≠ L := fun z => by
        rw [z, bB, d2] at a9
        cases a9
      have tC1 : Tabs T (upd H9 L (.lst [.ref q1, .ref q2])) := tabs_put (t8.ext s9) bB
      have gC : Same G4 (upd H9 L (.lst [.ref q1, .ref q2])) := Fut.mut gB gL
      have bC : (upd H9 L (.lst [.ref q1, .ref q2])) L = some (.lst [.ref q1, .ref q2]) := upd_same
      have aC1 : (upd H9 L (.lst [.ref q1, .ref q2])) q1 = some (.lst (dueO none none none)) := by
        rw [upd_ne n1]
        exact aB
      have aC2 : (upd H9 L (.lst [.ref q1, .ref q2])) q2 = some (.lst (dueO (some 1) none none)) := by
        rw [upd_ne q2L]
        exact a9
      have hn : ∀ b o, H4 b = some o → (∀ ps, o ≠ .tbl ps) → b ≠ L := fun b o e nb z => by
        have e2 := (x5.trans (ExtN.of s6)) b o e nb
        rw [z, hL] at e2
        cases e2
      have xC : ExtN H4 (upd H9 L (.lst [.ref q1, .ref q2])) := fun b o e nb => by
        rw [upd_ne (hn b o e nb)]
        exact s9 _ _ (x8 _ _ (x7 b o e nb) nb)
      rw [show ([V.ref q1] ++ [V.ref q2]) = [V.ref q1, V.ref q2] from rfl]
      generalize (upd H9 L (.lst [.ref q1, .ref q2])) = HC at bC aC1 aC2 tC1 gC xC ⊢
      refine ⟨_, rfl, .inl ⟨rfl, _, SqL.of bC⟩, tC1, fun HD xD tD ED ND nD eD => ⟨_, rfl, tl_make (sameX nT4 gC xD) h1 h6 hv (fun q3 HE sE aE => ?_) nD eD⟩⟩
      have gE : Same G4 HE := (sameX nT4 gC xD).trans sE
      have bE : HE L = some (.lst [.ref q1, .ref q2]) := sE _ _ (xD _ _ bC (fun ps z => by cases z))
      have aE1 : HE q1 = some (.lst (dueO none none none)) := sE _ _ (xD _ _ aC1 (fun ps z => by cases z))
      have aE2 : HE q2 = some (.lst (dueO (some 1) none none)) := sE _ _ (xD _ _ aC2 (fun ps z => by cases z))
      refine ⟨L, [.ref q1, .ref q2], _, rfl, rfl, bE, (by show 2 < sizeLine; decide), ?_⟩
      have q3L : q3 ≠ L := fun z => by
        rw [z, bE, d3] at aE
        cases aE
      have tF : Tabs T (upd HE L (.lst [.ref q1, .ref q2, .ref q3])) := tabs_put (tD.ext sE) bE
      have gF : Same G4 (upd HE L (.lst [.ref q1, .ref q2, .ref q3])) := Fut.mut gE gL
      have bF : (upd HE L (.lst [.ref q1, .ref q2, .ref q3])) L = some (.lst [.ref q1, .ref q2, .ref q3]) := upd_same
      have aF1 : (upd HE L (.lst [.ref q1, .ref q2, .ref q3])) q1 = some (.lst (dueO none none none)) := by
        rw [upd_ne n1]
        exact aE1
      have aF2 : (upd HE L (.lst [.ref q1, .ref q2, .ref q3])) q2 = some (.lst (dueO (some 1) none none)) := by
        rw [upd_ne q2L]
        exact aE2
      have aF3 : (upd HE L (.lst [.ref q1, .ref q2, .ref q3])) q3 = some (.lst (dueO (some 1) (some 6) none)) := by
        rw [upd_ne q3L]
        exact aE
      have xF : ExtN H4 (upd HE L (.lst [.ref q1, .ref q2, .ref q3])) := fun b o e nb => by
        rw [upd_ne (hn b o e nb)]
        exact sE _ _ (xD _ _ (xC b o e nb) nb)
      rw [show ([V.ref q1, V.ref q2] ++ [V.ref q3]) = [V.ref q1, V.ref q2, V.ref q3] from rfl]
      generalize (upd HE L (.lst [.ref q1, .ref q2, .ref q3])) = HF at bF aF1 aF2 aF3 tF gF xF ⊢
      refine ⟨_, rfl, .inl ⟨rfl, _, SqL.of bF⟩, tF, fun HG xG tG EG NG nG eG => ⟨rfl, _, rfl, .ref a, rfl, tl_make (sameX nT4 gF xG) hv hv hv (fun q4 HI sI aI => ?_) nG eG⟩⟩
      have gI : Same G4 HI := (sameX nT4 gF xG).trans sI
      have bI : HI L = some (.lst [.ref q1, .ref q2, .ref q3]) := sI _ _ (xG _ _ bF (fun ps z => by cases z))
      have aI1 : HI q1 = some (.lst (dueO none none none)) := sI _ _ (xG _ _ aF1 (fun ps z => by cases z))
      have aI2 : HI q2 = some (.lst (dueO (some 1) none none)) := sI _ _ (xG _ _ aF2 (fun ps z => by cases z))
      have aI3 : HI q3 = some (.lst (dueO (some 1) (some 6) none)) := sI _ _ (xG _ _ aF3 (fun ps z => by cases z))
      refine ⟨L, [.ref q1, .ref q2, .ref q3], _, rfl, rfl, bI, (by show 3 < sizeLine; decide), ?_⟩
      have q4L : q4 ≠ L := fun z => by
        rw [z, bI, d1] at aI
        cases aI
      have tJ : Tabs T (upd HI L (.lst [.ref q1, .ref q2, .ref q3, .ref q4])) := tabs_put (tG.ext sI) bI
      have gJ : Same G4 (upd HI L (.lst [.ref q1, .ref q2, .ref q3, .ref q4])) := Fut.mut gI gL
      have bJ : (upd HI L (.lst [.ref q1, .ref q2, .ref q3, .ref q4])) L = some (.lst [.ref q1, .ref q2, .ref q3, .ref q4]) := upd_same
      have aJ1 : (upd HI L (.lst [.ref q1, .ref q2, .ref q3, .ref q4])) q1 = some (.lst [.str "rights"]) := by
        rw [upd_ne n1, aI1, d1]
      have aJ2 : (upd HI L (.lst [.ref q1, .ref q2, .ref q3, .ref q4])) q2 = some (.lst [.str "lefts"]) := by
        rw [upd_ne q2L, aI2, d2]
      have aJ3 : (upd HI L (.lst [.ref q1, .ref q2, .ref q3, .ref q4])) q3 = some (.lst [.str "places"]) := by
        rw [upd_ne q3L, aI3, d3]
      have aJ4 : (upd HI L (.lst [.ref q1, .ref q2, .ref q3, .ref q4])) q4 = some (.lst [.str "rights"]) := by
        rw [upd_ne q4L, aI, d1]
      have xJ : ExtN H4 (upd HI L (.lst [.ref q1, .ref q2, .ref q3, .ref q4])) := fun b o e nb => by
        rw [upd_ne (hn b o e nb)]
        exact sI _ _ (xG _ _ (xF b o e nb) nb)
      rw [show ([V.ref q1, V.ref q2, V.ref q3] ++ [V.ref q4]) = [V.ref q1, V.ref q2, V.ref q3, V.ref q4] from rfl]
      generalize (upd HI L (.lst [.ref q1, .ref q2, .ref q3, .ref q4])) = HJ at bJ aJ1 aJ2 aJ3 aJ4 tJ gJ xJ ⊢
      refine ⟨_, rfl, (by show 1 ≤ sizeLine; decide), fun p1 hp1 => ⟨(by show 1 ≤ sizeLine; decide), fun p2 hp2 => ⟨(by show 1 ≤ sizeLine; decide), fun p3 hp3 => ⟨(by show 1 ≤ sizeLine; decide), fun p4 hp4 => ⟨(by show 4 ≤ sizeLine; decide), fun p5 hp5 => ?_⟩⟩⟩⟩⟩
      have r4 := Same.new (o := .lst [.ref p1, .ref p2, .ref p3, .ref p4]) hp5
      have r3 := (Same.new (o := .lst [.str "rights"]) hp4).trans r4
      have r2 := (Same.new (o := .lst [.str "places"]) hp3).trans r3
      have r1 := (Same.new (o := .lst [.str "lefts"]) hp2).trans r2
      have r0 := (Same.new (o := .lst [.str "rights"]) hp1).trans r1
      have l1 := r1 p1 _ upd_same
      have l2 := r2 p2 _ upd_same
      have l3 := r3 p3 _ upd_same
      have l4 := r4 p4 _ upd_same
      have l5 := upd_same (a := p5) (o := HO.lst [.ref p1, .ref p2, .ref p3, .ref p4]) (H := upd (upd (upd (upd HJ p1 (.lst [.str "rights"])) p2 (.lst [.str "lefts"])) p3 (.lst [.str "places"])) p4 (.lst [.str "rights"]))
      have gK := gJ.trans r0
      have tK := tJ.ext r0
      have xK := xJ.trans (ExtN.of r0)
      have bK := r0 _ _ bJ
      have aK1 := r0 _ _ aJ1
      have aK2 := r0 _ _ aJ2
      have aK3 := r0 _ _ aJ3
      have aK4 := r0 _ _ aJ4
      generalize (upd (upd (upd (upd (upd HJ p1 (.lst [.str "rights"])) p2 (.lst [.str "lefts"])) p3 (.lst [.str "places"])) p4 (.lst [.str "rights"])) p5 (.lst [.ref p1, .ref p2, .ref p3, .ref p4])) = HK at l1 l2 l3 l4 l5 gK tK xK bK aK1 aK2 aK3 aK4 ⊢
      refine ⟨.list [.list [.str "rights"], .list [.str "lefts"], .list [.str "places"], .list [.str "rights"]], .list [.list [.str "rights"], .list [.str "lefts"], .list [.str "places"], .list [.str "rights"]],
        .lst (SqL.of bK) (.cons (.lst (SqL.of aK1) (.cons (.str _) .nil)) (.cons (.lst (SqL.of aK2) (.cons (.str _) .nil)) (.cons (.lst (SqL.of aK3) (.cons (.str _) .nil)) (.cons (.lst (SqL.of aK4) (.cons (.str _) .nil)) .nil)))),
        .lst (SqL.of l5) (.cons (.lst (SqL.of l1) (.cons (.str _) .nil)) (.cons (.lst (SqL.of l2) (.cons (.str _) .nil)) (.cons (.lst (SqL.of l3) (.cons (.str _) .nil)) (.cons (.lst (SqL.of l4) (.cons (.str _) .nil)) .nil)))), by decide +kernel, by decide +kernel, _, rfl, ?_⟩
      have eqq : PyData.eqv (.list [.list [.str "rights"], .list [.str "lefts"], .list [.str "places"], .list [.str "rights"]]) (.list [.list [.str "rights"], .list [.str "lefts"], .list [.str "places"], .list [.str "rights"]]) = true := by decide +kernel
      rw [eqq]
      refine iteF ?_
      have z1 : decide (partO none (some 1) (some 1) = .non) = false := by decide
      have z2 : decide (partO (some 1) none (some 1) = .non) = false := by decide
      have z3 : decide (partO (some 1) (some 1) none = .non) = false := by decide
      refine ⟨.inl rfl, _, rfl, G4, .ref a, .int 1, .int 1, none, some 1, some 1, rfl, gK, hv, h1, h1, ?_⟩
      refine ⟨.inl rfl, _, rfl, G4, .int 1, .ref a, .int 1, some 1, none, some 1, rfl, gK, h1, hv, h1, ?_⟩
      refine ⟨.inl rfl, _, rfl, G4, .int 1, .int 1, .ref a, some 1, some 1, none, rfl, gK, h1, h1, hv, ?_⟩
      rw [z1, z2, z3]
      refine ⟨(by show 3 ≤ sizeLine; decide), fun L5 hL5 => ?_⟩
      refine ⟨(by show 1 ≤ sizeLine; decide), fun L6 hL6 => ⟨L6, 3, [.bl false], rfl, rfl, upd_same, by decide, by decide, (by show 1 * 3 ≤ sizeLine; decide), fun L7 hL7 => ?_⟩⟩
      have w5 := (Same.new (o := .lst [.bl false]) hL6).trans (Same.new (o := .lst (List.replicate (3 : Int).toNat [V.bl false]).flatten) hL7)
      have w4 := (Same.new (o := .lst [.bl false, .bl false, .bl false]) hL5).trans w5
      have y5 := w5 L5 _ upd_same
      refine ⟨.list [.bool false, .bool false, .bool false], .list [.bool false, .bool false, .bool false], .lst (SqL.of y5) (.cons (.bl _) (.cons (.bl _) (.cons (.bl _) .nil))), .lst (SqL.of upd_same) (.cons (.bl _) (.cons (.bl _) (.cons (.bl _) .nil))), by decide +kernel, by decide +kernel, _, rfl, ?_⟩
      have eqr : PyData.eqv (.list [.bool false, .bool false, .bool false]) (.list [.bool false, .bool false, .bool false]) = true := by decide +kernel
      rw [eqr]
      refine iteF ?_
      exact ⟨_, _, _, rfl, (x3.trans (ExtN.of f4.h)).trans (xK.trans (ExtN.of w4)), tK.ext w4⟩
    · rintro σ H3 ⟨v0, v1, v2, rfl, x3, t3⟩
      exact fin H3 x3 t3
end
end W2

namespace PySem.W
open PySem PySem.Calls PyProof.Rows
section
variable {prog : Program} {w : World} {A : Around} {E : Value → Shared → Prop} {s : Shared} {K : Frag} {x C L f : Addr} {h₀ : Heap} {m : Str → Option Value} {ox : Obj} {od : Option Obj} {name : Str} {b tb : Value}
theorem r2_ifBound {M : Model} {args : List Value} {id T : String} {Q : Option Value → Shared → Prop} (X : K.In s.heap) (I : InstAt s.heap x ox C od) (hs : findIn K (.ref C) name = some (some (.builtin id))) (S : Slot T name id)
    (h : wpAny M A (call (.builtin id) (.ref x :: args)) (fun v => Q (some v)) E s) : wpAny M A (callSpecialIfBound? (.ref x) name args) Q E s := by
  simp only [callSpecialIfBound?, bindSpecialIfBound?]
  refine wpAny_holding (wpAny_bind (wpAny_bind (wpAny_bind (I.type.here ((looks_findIn X hs).here ?_)))))
  refine wpAny_bind (wpAny_askSetting (wpAny_ite ?_))
  have fin : wpAny M A (call (.builtin id) ([.ref x] ++ args) >>= fun v => pure (some v)) Q E s := wpAny_bind (wpAny_mono h (fun v s' h' => wpAny_pure h') fun _ _ h' => h')
  simp only [S.bind]
  split
  · exact wpAny_bind (wpAny_pure (wpAny_pure fin))
  · exact wpAny_tryCatch (wpAny_bind (wpAny_pure (wpAny_pure fin)))
def R2Bool (Q : Bool → Shared → Prop) (v : Value) (s' : Shared) : Prop := ∃ b, v = .bool b ∧ Q b s'
/-- x != b where the class has an own ==, and object's != -/
theorem r2_ne {Q : Value → Shared → Prop} (hu : A.units + 1 < cLine) (F : Fr h₀ L s.heap m) (X₀ : K.In h₀) (I : InstAt s.heap x ox C od) (hb : Looks (model prog w) s.heap (typeOf b) tb) (hn : notFirst K C tb = true)
    (hne : findIn K (.ref C) "__ne__" = some (some (.builtin "object.__ne__"))) (hi : Looks (model prog w) s.heap (isInstance (.ref x) (.type "object")) true) (hs : findIn K (.ref C) "__eq__" = some (some (.ref f))) (hf : isFn K (.ref f) = true)
    (h : wpAny (model prog w) A.in1 (call (.ref f) [.ref x, b]) (R2Bool fun c => Q (.bool (!c))) E s) : wpAny (model prog w) A (richCompare .NotEq (.ref x) b) Q E s := by
  have X := X₀.keeps F.keep
  have body : wpAny (model prog w) A (call (.builtin "object.__ne__") [.ref x, b]) (fun v s' => (∃ c, v = .bool c) ∧ Q v s') E s := by
    refine wpAny_call (codeAny_call_builtin PySem.F.cmp_object.ne.plain PySem.F.cmpEntry_ne (check_slot PySem.F.cmpKind_ne PySem.F.cmpSplit_ne hi (PySem.F.cmpArgs_ne _ _) ?_))
    unfold Builtin.«object.__ne__»
    refine wpAny_bind (m := slotArgs "__ne__" 1 _) (wpAny_pure ?_)
    refine wpAny_bind (wpAny_cRoomFor (by show A.units + 1 < cLine; omega) ?_)
    refine wpAny_bind (ifBound_K X I hs hf (wpAny_mono h (fun v s' hv => ?_) fun _ _ e => e))
    obtain ⟨c, rfl, q⟩ := hv
    refine wpAny_bind (m := truthy (.bool c)) (wpAny_pure ?_)
    exact wpAny_pure ⟨⟨_, rfl⟩, q⟩
  have one : wpAny (model prog w) A (tryCompare (.ref x) "__ne__" b) (fun r s' => ∃ v, r = some v ∧ Q v s') E s := by
    unfold tryCompare
    refine wpAny_bind (r2_ifBound X I hne PySem.F.cmp_object.ne (wpAny_mono body (fun v s' hv => ?_) fun _ _ e => e))
    obtain ⟨⟨c, rfl⟩, q⟩ := hv
    exact wpAny_pure ⟨_, rfl, q⟩
  unfold richCompare
  simp only [oneThing_ref]
  refine wpAny_holding (wpAny_bind (wpAny_cRoomFor (by omega) ?_))
  refine wpAny_bind (I.type.here (wpAny_bind (hb.here ?_)))
  split
  · rename_i q
    have e : subIn K tb (.ref C) = some false := by
      rcases Bool.or_eq_true_iff.mp hn with e | e
      · rw [beq_iff_eq.mp e] at q; simp at q
      · exact beq_iff_eq.mp e
    refine wpAny_bind ((looks_subIn X e).here ?_)
    simp only [Bool.false_eq_true, if_false]
    refine wpAny_bind (wpAny_mono one (fun r s' z => ?_) fun _ _ e => e)
    obtain ⟨v, rfl, hq⟩ := z
    exact wpAny_pure hq
  · refine wpAny_bind (wpAny_pure ?_)
    simp only [Bool.false_eq_true, if_false]
    refine wpAny_bind (wpAny_mono one (fun r s' z => ?_) fun _ _ e => e)
    obtain ⟨v, rfl, hq⟩ := z
    exact wpAny_pure hq
end
end PySem.W

namespace W2
open PySem PySem.Spec PyProof.Rows L2 Pg Pf Rul Tab
theorem asc_len : ∀ {ns : List Int} {a b : Int}, ns.Pairwise (· < ·) → (∀ x ∈ ns, a ≤ x ∧ x < b) → a ≤ b → (ns.length : Int) ≤ b - a
  | [], a, b, _, _, h => by simp; omega
  | n :: ns, a, b, hp, hm, h => by
    rw [List.pairwise_cons] at hp
    have h0 := hm n List.mem_cons_self
    have ih := asc_len (ns := ns) (a := n + 1) (b := b) hp.2 (fun x hx => ⟨by have := hp.1 x hx; omega, (hm x (List.mem_cons_of_mem _ hx)).2⟩) (by omega)
    rw [List.length_cons]
    omega
theorem cell_len {k : Int} {ns : List Int} (h : Cell k ns) (hk : k ≤ 12) : ns.length ≤ 12 := by
  obtain ⟨h0, h1, h2⟩ := h
  have hk0 : 0 ≤ k := by
    cases ns with
    | nil => exact absurd rfl h0
    | cons a b =>
      have := h2 a List.mem_cons_self
      omega
  have := asc_len h1 h2 hk0
  omega
/-- data that is compared and shown: no texts but short ones, no dicts; its depth, its weight -/
structure Fine (n wt : Nat) (d : PyData) : Prop where
  lay : d.canLay0 = true
  sh : d.showable = true
  dp : d.depth ≤ n
  sl : d.leavesShort 13 = true
  wt : d.weight ≤ wt
structure FineAll (n wt : Nat) (ds : List PyData) : Prop where
  lay : PyData.canLayAll0 ds = true
  sh : PyData.showableAll ds = true
  dp : PyData.depthAll ds ≤ n
  sl : PyData.leavesShortAll 13 ds = true
  wt : PyData.weightAll ds ≤ wt
theorem Fine.mono {n n' wt wt' : Nat} {d : PyData} (f : Fine n wt d) (h : n ≤ n') (h2 : wt ≤ wt') : Fine n' wt' d := ⟨f.lay, f.sh, Nat.le_trans f.dp h, f.sl, Nat.le_trans f.wt h2⟩
theorem FineAll.nil {n wt : Nat} : FineAll n wt [] := ⟨rfl, rfl, Nat.zero_le _, rfl, Nat.zero_le _⟩
theorem FineAll.cons {n a b : Nat} {d : PyData} {ds : List PyData} (f : Fine n a d) (g : FineAll n b ds) : FineAll n (a + 1 + b) (d :: ds) := by
  refine ⟨?_, ?_, ?_, ?_, ?_⟩
  · show (d.canLay0 && PyData.canLayAll0 ds) = true
    rw [f.lay, g.lay]
    rfl
  · show (d.showable && PyData.showableAll ds) = true
    rw [f.sh, g.sh]
    rfl
  · show max d.depth (PyData.depthAll ds) ≤ n
    exact Nat.max_le.mpr ⟨f.dp, g.dp⟩
  · show (d.leavesShort 13 && PyData.leavesShortAll 13 ds) = true
    rw [f.sl, g.sl]
    rfl
  · show d.weight + 1 + PyData.weightAll ds ≤ _
    have := f.wt
    have := g.wt
    omega
theorem FineAll.all {n wt : Nat} : ∀ {ds : List PyData}, (∀ d ∈ ds, Fine n wt d) → FineAll n (ds.length * (wt + 1)) ds
  | [], _ => .nil
  | d :: ds, h => by
    have z := FineAll.cons (h d List.mem_cons_self) (FineAll.all (ds := ds) fun x hx => h x (List.mem_cons_of_mem _ hx))
    rw [List.length_cons, Nat.succ_mul, Nat.add_comm]
    exact z
theorem FineAll.monoW {n wt wt' : Nat} {ds : List PyData} (f : FineAll n wt ds) (h : wt ≤ wt') : FineAll n wt' ds := ⟨f.lay, f.sh, f.dp, f.sl, Nat.le_trans f.wt h⟩
theorem FineAll.list {n wt : Nat} {ds : List PyData} (f : FineAll n wt ds) : Fine (n + 1) wt (.list ds) := ⟨f.lay, f.sh, Nat.succ_le_succ f.dp, f.sl, f.wt⟩
theorem FineAll.tuple {n wt : Nat} {ds : List PyData} (f : FineAll n wt ds) : Fine (n + 1) wt (.tuple ds) := ⟨f.lay, f.sh, Nat.succ_le_succ f.dp, f.sl, f.wt⟩
theorem log2_small {i : Int} (h : i.natAbs < 2 ^ 30) : i.natAbs.log2 < 30 := by
  by_cases z : i.natAbs = 0
  · rw [z]
    decide
  · exact (Nat.log2_lt z).mpr h
theorem Fine.int {n : Nat} {i : Int} (h : i.natAbs < 2 ^ 30) : Fine n 31 (.int i) := by
  have hl := log2_small h
  refine ⟨rfl, ?_, Nat.zero_le _, ?_, ?_⟩
  · show decide (i.natAbs.log2 < 1920) = true
    exact decide_eq_true (by omega)
  · show decide ((PyData.shown (.int i)).length ≤ 13) = true
    exact decide_eq_true (PyData.shown_int_le (by omega))
  · show (if i == 0 then 0 else i.natAbs.log2 + 1) ≤ 31
    split <;> omega
theorem Fine.bool {n : Nat} (b : Bool) : Fine n 0 (.bool b) := ⟨rfl, rfl, Nat.zero_le _, rfl, Nat.zero_le _⟩
theorem Fine.none {n : Nat} : Fine n 0 .none := ⟨rfl, rfl, Nat.zero_le _, rfl, Nat.zero_le _⟩
theorem fine_cell {k : Int} {ns : List Int} (h : Cell k ns) (hk : k ≤ 12) : Fine 1 384 (cellD ns) := by
  have h1 := cell_len h hk
  have z : FineAll 0 ((ns.map PyData.int).length * 32) (ns.map PyData.int) := FineAll.all fun d hd => by
    obtain ⟨x, hx, rfl⟩ := List.mem_map.mp hd
    have := h.2.2 x hx
    exact Fine.int (by omega)
  rw [List.length_map] at z
  exact (z.monoW (by omega)).tuple
theorem fine_rowL {k : Int} {r : List (List Int)} (h : ∀ c ∈ r, Cell k c) (hk : k ≤ 12) (hl : r.length ≤ 6) : Fine 2 2310 (rowL r) := by
  have z : FineAll 1 ((r.map cellD).length * 385) (r.map cellD) := FineAll.all fun d hd => by
    obtain ⟨x, hx, rfl⟩ := List.mem_map.mp hd
    exact fine_cell (h x hx) hk
  rw [List.length_map] at z
  exact (z.monoW (by omega)).list
theorem fine_rowT {k : Int} {r : List (List Int)} (h : ∀ c ∈ r, Cell k c) (hk : k ≤ 12) (hl : r.length ≤ 6) : Fine 2 2310 (rowT r) := by
  have z : FineAll 1 ((r.map cellD).length * 385) (r.map cellD) := FineAll.all fun d hd => by
    obtain ⟨x, hx, rfl⟩ := List.mem_map.mp hd
    exact fine_cell (h x hx) hk
  rw [List.length_map] at z
  exact (z.monoW (by omega)).tuple
theorem tabF_mem {r l : Nat} {c : Nat → Nat → List Int} {x : List (List Int)} (h : x ∈ tabF r l c) : ∃ i, i < r ∧ x = (List.range l).map fun j => c i j := by
  unfold tabF at h
  obtain ⟨i, hi, rfl⟩ := List.mem_map.mp h
  exact ⟨i, List.mem_range.mp hi, rfl⟩
theorem fine_tabT {r l : Nat} {k : Int} {c : Nat → Nat → List Int} (h : ∀ i j, i < r → j < l → Cell k (c i j)) (hk : k ≤ 12) (hr : r ≤ 6) (hl : l ≤ 6) : Fine 3 13866 (tabT (tabF r l c)) := by
  have z : FineAll 2 (((tabF r l c).map rowT).length * 2311) ((tabF r l c).map rowT) := FineAll.all fun d hd => by
    obtain ⟨x, hx, rfl⟩ := List.mem_map.mp hd
    obtain ⟨i, hi, rfl⟩ := tabF_mem hx
    refine fine_rowT (k := k) (fun y hy => ?_) hk (by rw [List.length_map, List.length_range]; exact hl)
    obtain ⟨j, hj, rfl⟩ := List.mem_map.mp hy
    exact h i j hi (List.mem_range.mp hj)
  rw [List.length_map, tabF_len] at z
  exact (z.monoW (by omega)).tuple
theorem Fine.shaped {n wt : Nat} {d : PyData} (f : Fine n wt d) (h : n ≤ 64) : SeqAt.shaped d = true := by
  show (d.canLay0 && decide (d.depth ≤ 64)) = true
  rw [f.lay, decide_eq_true (Nat.le_trans f.dp h)]
  rfl
theorem Fine.fits {n wt : Nat} {d : PyData} (f : Fine n wt d) (h : wt ≤ 1000000) : d.shown.length ≤ sizeLine := PyData.shown_fits (B := 13) (by decide) (by decide) f.sl (by have := f.wt; omega)
theorem Fine.nodict {n wt : Nat} {d : PyData} (f : Fine n wt d) : d.hasDict = false := PyData.hasDict_of_canLay d f.lay
/-- repr of such data -/
theorem rd_repr {X : Cx} {H : Hp} {a : Addr} {d : PyData} {n wt : Nat} {Q : VK} (hd : Dp X.K H (.ref a) d) (f : Fine n wt d) (hn : n ≤ 60) (hw : wt ≤ 1000000) (q : Q (.str d.shown) H) :
    ∃ a' d', [V.ref a] = [.ref a'] ∧ Dp X.K H (.ref a') d' ∧ d'.showable = true ∧ d'.hasDict = false ∧ d'.depth ≤ 60 ∧ d'.shown.length ≤ sizeLine ∧ Q (.str d'.shown) H :=
  ⟨a, d, rfl, hd, f.sh, f.nodict, Nat.le_trans f.dp hn, f.fits hw, q⟩
mutual
theorem eqv_rflD : ∀ d : PyData, d.canLay0 = true → PyData.eqv d d = true
  | .none, _ => rfl
  | .bool b, _ => by simp [PyData.eqv]
  | .int i, _ => by simp [PyData.eqv]
  | .str x, _ => by simp [PyData.eqv]
  | .list ds, h => eqvAll_rflD ds h
  | .tuple ds, h => eqvAll_rflD ds h
  | .dict _, h => by cases h
theorem eqvAll_rflD : ∀ ds : List PyData, PyData.canLayAll0 ds = true → PyData.eqvAll ds ds = true
  | [], _ => rfl
  | d :: ds, h => by
    have h' := Bool.and_eq_true_iff.mp (show (d.canLay0 && PyData.canLayAll0 ds) = true from h)
    show (PyData.eqv d d && PyData.eqvAll ds ds) = true
    rw [eqv_rflD d h'.1, eqvAll_rflD ds h'.2]
    rfl
end
end W2

namespace W2
open PySem PySem.Spec PyProof.Rows L2 Pg Pf Rul Tab
/-- what is known of the class for ==, !=, len, isinstance -/
structure We (P : Program) (w : World) (K : PySem.W.Frag) (mg : Str → Option Value) (base : Heap) (ke : Nat) (C : Addr) (spE : Sp) : Prop where
  cl : Cls K C
  ha : PySem.W.findIn K (.ref C) "__class__" = some (some (.builtin "object.__class__"))
  hn : PySem.W.specialIn K (.builtin "object.__class__") "__get__" = some (some (.builtin "getset_descriptor.__get__"))
  htk : PySem.W.takesIn K (.builtin "object.__class__") = some true
  hm : PySem.W.mroIn K C (.type "object") = some true
  ne : PySem.W.findIn K (.ref C) "__ne__" = some (some (.builtin "object.__ne__"))
  eq : ∃ (f : Addr) (fd : FuncData), PySem.W.findIn K (.ref C) "__eq__" = some (some (.ref f)) ∧ PySem.W.isFn K (.ref f) = true ∧ FnOk P w K mg base CX0 ke f fd ["self", "other"] spE ∧ Binds K fd ["self", "other"] []
/-- x == y, x != y by the class's own == -/
def rCmpW (K : PySem.W.Frag) (C : Addr) (sp : Sp) (neg : Bool) : R2 := fun x y H Q => ∃ a dx fs t, x = .ref a ∧ H a = some (.ins C dx fs) ∧ TyX K H y t ∧ PySem.W.notFirst K C t = true ∧ sp [x, y] H (fun v H' => ∃ c : Bool, v = .bl c ∧ Q (.bl (if neg = true then !c else c)) H') E0
section
variable {X : Cx} {ke j : Nat} {C : Addr} {spE : Sp}
theorem op_eqW (c : We X.prog X.w X.K X.mg X.base ke C spE) (hr : Room j X.A) (hk : ke ≤ j) : OpR X (compareOp .Eq) (rCmpW X.K C spE false) := by
  intro pins s σ H x y v u Q I rx ry h
  obtain ⟨a, dx, fs, t, rfl, ha, ty, hn, q⟩ := h
  cases (show v = Value.ref a from rx)
  obtain ⟨f, fd, hs, hf, F, b⟩ := c.eq
  obtain ⟨mA, O, _⟩ := ins_get I.hok ha
  obtain ⟨od, J, _⟩ := O.look
  obtain ⟨m, hF⟩ := I.fr
  obtain ⟨Pk, Z, p, _⟩ := kit_of I ry ty
  refine PySem.W.cmp_K (op := .Eq) (tb := t) (hr.mono hk).units0 hF I.ok.mod.kin J (Z.ty _ _ I.kIn p) hn hs hf ?_
  have z := run_fn (us := [.ref a, u]) (vs := [.ref a, y]) (Q := fun v H' => ∃ c : Bool, v = .bl c ∧ Q (.bl c) H') F (hr.mono hk) b .nil pass0 I (.cons rfl (.cons ry .nil)) q
  refine wpAny_mono z (fun w s' hz => ?_) fun _ _ x => x
  obtain ⟨z', H', I', rz, c, ec, qz⟩ := hz
  subst ec
  cases (show w = Value.bool c from rz)
  exact ⟨.bl c, H', I', rfl, qz⟩
end
theorem dec_int (a b : Nat) : decide (V.int (a : Nat) = V.int (b : Nat)) = decide (a = b) := by
  by_cases h : a = b
  · rw [decide_eq_true h, decide_eq_true (by rw [h])]
  · rw [decide_eq_false h, decide_eq_false (fun z => h (by injection z with z; omega))]
theorem eqv_ints : ∀ ns ms : List Int, PyData.eqvAll (ns.map PyData.int) (ms.map PyData.int) = decide (ns = ms)
  | [], [] => rfl
  | [], m :: ms => rfl
  | n :: ns, [] => rfl
  | n :: ns, m :: ms => by
    show ((n == m) && PyData.eqvAll (ns.map PyData.int) (ms.map PyData.int)) = _
    rw [eqv_ints ns ms, Bool.eq_iff_iff]
    simp
theorem eqv_map {α : Type} [DecidableEq α] (f : α → PyData) (h : ∀ x y, PyData.eqv (f x) (f y) = decide (x = y)) : ∀ xs ys : List α, PyData.eqvAll (xs.map f) (ys.map f) = decide (xs = ys)
  | [], [] => rfl
  | [], y :: ys => rfl
  | x :: xs, [] => rfl
  | x :: xs, y :: ys => by
    show (PyData.eqv (f x) (f y) && PyData.eqvAll (xs.map f) (ys.map f)) = _
    rw [h, eqv_map f h xs ys, Bool.eq_iff_iff]
    simp
theorem eqv_cell (a b : List Int) : PyData.eqv (cellD a) (cellD b) = decide (a = b) := eqv_ints a b
theorem eqv_rowT (a b : List (List Int)) : PyData.eqv (rowT a) (rowT b) = decide (a = b) := eqv_map cellD eqv_cell a b
theorem eqv_tabT (a b : List (List (List Int))) : PyData.eqv (tabT a) (tabT b) = decide (a = b) := eqv_map rowT eqv_rowT a b
abbrev s_eq : Stmt := inClass (top 10) 10
abbrev N_eq : List Str := ["self", "other"]
theorem sc_eq : FnScope N_eq ["self", "other"] (defScope s_eq) := ⟨rfl, rfl, rfl, by decide +kernel, rfl, by decide +kernel, by decide +kernel⟩
/-- the own == -/
def spEqW (K : PySem.W.Frag) (C : Addr) : Sp := fun vs H Q _ => ∃ (G : Hp) (a : Addr) (y : V) (r l k : Nat) (c : Nat → Nat → List Int), vs = [.ref a, y] ∧ Same G H ∧ WayAt K C G a r l k c ∧
  ((∃ (b : Addr) (r' l' k' : Nat) (c' : Nat → Nat → List Int), y = .ref b ∧ WayAt K C G b r' l' k' c' ∧ Q (.bl (decide (k = k') && decide (tabF r l c = tabF r' l' c'))) H) ∨
   (∃ t, TyX K H y t ∧ PySem.W.kitOne K t (.ref C) = some false ∧ Q (.bl false) H))
section
variable {P : Program} {w : World} {K : PySem.W.Frag} {mg : Str → Option Value} {base : Heap} {f C : Addr} {fd : FuncData}
theorem kit_self : PySem.W.kitOne K (.ref C) (.ref C) = some true := by
  unfold PySem.W.kitOne
  rw [if_pos (by simp)]
theorem ok_eqW (Bw' : Bw mg) (T : Wt K mg C) (hA : PySem.W.findIn K (.ref C) "__class__" = some (some (.builtin "object.__class__"))) (hN : PySem.W.specialIn K (.builtin "object.__class__") "__get__" = some (some (.builtin "getset_descriptor.__get__")))
    (hT : PySem.W.takesIn K (.builtin "object.__class__") = some true) (hM : PySem.W.mroIn K C (.type "object") = some true) (F : Fun K "__eq__" "Way.__eq__" s_eq f fd) : FnOk P w K mg base CX0 2 f fd ["self", "other"] (spEqW K C) := by
  refine F.ok sc_eq (fun vs H Q E h => ?_) (fun cdv A outer s H vs Q E hr h => ?_)
  · obtain ⟨G, a, y, r, l, k, c, rfl, _⟩ := h
    rfl
  · obtain ⟨G, a, y, r, l, k, c, rfl, sG, W, q⟩ := h
    refine ⟨_, (pss_one (ps_ret (pe_and (pe_callB call_isi (by rfl) Bw'.isinstance (by decide +kernel) (pa_cons (pv 1) (pa_cons (pe_glob (v := .ref C) (by rfl) T.mgC rfl) pa_nil))) (pe_and (pe_cmpR op_eq (pe_fld (pv 0) rfl) (pe_fld (pv 1) rfl) (nomark _)) (pe_one (pe_cmpR (op_eqD hr.units) (pe_fld (pv 0) rfl) (pe_fld (pv 1) rfl) (nomark _))))))), ?_⟩
    obtain ⟨dx, t0, ha, hd⟩ := W.ob
    rcases q with ⟨b, r', l', k', c', rfl, W', q⟩ | ⟨t, ty, ho, q⟩
    · obtain ⟨dx', t0', hb, hd'⟩ := W'.ob
      refine ⟨_, rfl, _, .ref C, .ref C, .ref C, true, rfl, .own C, .base (.ins (sG _ _ hb) T.cl hA hN hT hM), kit_self, _, rfl, ?_⟩
      refine iteT ?_
      refine ⟨_, rfl, a, C, dx, _, _, rfl, sG _ _ ha, T.cl, T.nP, wf_k _ _ _ _, _, rfl, b, C, dx', _, _, rfl, sG _ _ hb, T.cl, T.nP, wf_k _ _ _ _, rfl, _, rfl, ?_⟩
      rw [dec_int]
      by_cases e : k = k'
      · rw [decide_eq_true e] at q ⊢
        refine iteT ?_
        have f1 := fine_tabT W.ok (by have := W.k2; omega) W.r2 W.l2
        have f2 := fine_tabT W'.ok (by have := W'.k2; omega) W'.r2 W'.l2
        refine ⟨_, rfl, a, C, dx, _, _, rfl, sG _ _ ha, T.cl, T.nT, wf_t _ _ _ _, _, rfl, b, C, dx', _, _, rfl, sG _ _ hb, T.cl, T.nT, wf_t _ _ _ _, _, _, Dp.mono sG _ _ hd, Dp.mono sG _ _ hd', f1.shaped (by decide), f2.shaped (by decide), ?_⟩
        rw [eqv_tabT]
        rw [Bool.true_and] at q
        exact q
      · rw [decide_eq_false e] at q ⊢
        refine iteF ?_
        exact q
    · refine ⟨_, rfl, _, .ref C, t, .ref C, false, rfl, .own C, ty, ho, _, rfl, ?_⟩
      refine iteF ?_
      exact q
end
end W2

set_option maxHeartbeats 800000
namespace W2
open PySem PySem.Spec PyProof.Rows L2 Pg Pf LamX
theorem passX0 {X : Cx} : Passes (L2.CX X.prog X.w) X E0 := fun _ _ _ _ _ _ _ c => by
  obtain ⟨_, _, _, _, _, _, _, _, _, _, _, _, z⟩ := c
  exact z.elim
theorem nf_self {K : PySem.W.Frag} {C : Addr} : PySem.W.notFirst K C (.ref C) = true := by
  unfold PySem.W.notFirst
  simp
theorem sq_part (o : Option Int) : (∃ n : Nat, o = some (n : Int) ∧ 1 ≤ n ∧ n ≤ 6 ∧ partO o o o = .non) ∨ partO o o o = .str "rights" := by
  cases o with
  | none => exact .inr rfl
  | some i =>
    by_cases h : 1 ≤ i ∧ i ≤ 6
    · have e : i = (i.toNat : Int) := by omega
      refine .inl ⟨i.toNat, congrArg some e, by omega, by omega, ?_⟩
      have hn1 : 1 ≤ i.toNat := by omega
      have hn6 : i.toNat ≤ 6 := by omega
      rw [e]
      exact part_good hn1 hn6 hn1 hn6 hn1 (by omega)
    · refine .inr ?_
      have f : inO (some i) 1 6 = false := by
        show (decide ((1 : Int) ≤ i) && decide (i ≤ 6)) = false
        by_cases g : 1 ≤ i
        · rw [decide_eq_true g, decide_eq_false (fun z => h ⟨g, z⟩)]
          rfl
        · rw [decide_eq_false g]
          rfl
      unfold partO
      rw [if_pos f]
theorem due_ne {a b c : Option Int} {q : Addr} {xs : List V} : dueO a b c ≠ .ref q :: xs := fun z => by
  rcases due_data a b c with ⟨_, e⟩ | ⟨p, _, e, _⟩
  · rw [e] at z
    cases z
  · rw [e] at z
    cases z
/-- what is due of a number given thrice, as data -/
theorem sq_data (o : Option Int) : ∃ ds : List PyData, (∀ (K : PySem.W.Frag) (H' : Hp), DpAll K H' (dueO o o o) ds) ∧ SeqAt.shaped (.list ds) = true ∧ SeqAt.shaped (.list [.list ds, .list ds, .list ds]) = true ∧
    PyData.eqv (.list [.list ds, .list ds, .list ds]) (.list [.list ds, .list ds, .list ds]) = true ∧ PyData.eqv (.list ds) (.list []) = decide (partO o o o = .non) := by
  rcases sq_part o with ⟨n, _, _, _, e⟩ | e
  · refine ⟨[], fun K H' => ?_, rfl, by decide +kernel, by decide +kernel, ?_⟩
    · unfold dueO
      rw [e]
      exact .nil
    · rw [e]
      rfl
  · refine ⟨[.str "rights"], fun K H' => ?_, by decide +kernel, by decide +kernel, by decide +kernel, ?_⟩
    · unfold dueO
      rw [e]
      exact .cons (.str _) .nil
    · rw [e, decide_eq_false (by intro z; cases z)]
      rfl
abbrev s__law_square_right : Stmt := top 24
abbrev N__law_square_right : List Str := ["_law_road", "_law_walkers_here", "_law_due_here", "_law_told", "_law_same"]
theorem sc__law_square_right : FnScope N__law_square_right ["_law_road", "_law_walkers_here"] (defScope s__law_square_right) := ⟨rfl, rfl, rfl, by decide +kernel, rfl, by decide +kernel, by decide +kernel⟩
def spSqRight (K : PySem.W.Frag) (T : List (Addr × Str)) (C : Addr) : Sp := fun vs H Q _ => ∃ (G : Hp) (rd dr : Addr) (fs : List (Str × V)) (x : V) (o : Option Int), vs = [.ref rd, x] ∧ Same G H ∧ NoT G ∧ Tabs T H ∧ G rd = some (.ins C dr fs) ∧ fs.lookup ("square" : Str) = none ∧ Vk K G x o ∧
  ∀ H', ExtN H H' → Tabs T H' → Q (.bl true) H'
section
variable {P : Program} {w : World} {K : PySem.W.Frag} {mg : Str → Option Value} {base : Heap} {f C CE c Pt fI pS gS : Addr} {fd fdI fdS : FuncData} {T : List (Addr × Str)} {mc : Value} {ke : Nat}
theorem ok_sq_right (B : Bt mg) (cD : CalO P w K mg base 3 "_law_due" (spDue K)) (L : Lp K mg CE) (mk : Mk K C fI) (okI : FnOk P w K mg base (L2.CX P w) 4 fI fdI ["self", "rights", "lefts", "places"] (spInitX K C CE)) (bI : Binds K fdI ["self", "rights", "lefts", "places"] []) (mC : mg "Way" = some (.ref C))
    (rd : ClX.CRead K C mc) (cm : ClX.CMet K C mc "square" pS gS) (ci : ClX.CInst K C "square" pS gS) (okS : FnR P w K mg base (L2.CX P w) 6 gS (spSq K C CE)) (okS2 : FnOk P w K mg base (L2.CX P w) 6 gS fdS ["cls", "walkers"] (spSq K C CE))
    (hbS : ∀ (s : Shared) (u v : Value), BindsTo s fdS ⟨[u], [("walkers", v)]⟩ [("cls", u), ("walkers", v)]) (we : We P w K mg base 2 C (spEqW K C)) (F : FunT K mg base T "_law_square_right" s__law_square_right f fd c Pt) : FnG P w K mg base 10 f fd ["_law_road", "_law_walkers_here"] (spSqRight K T C) := by
  obtain ⟨g, dV, kV, doc, pm, cdv, ct, oc, an, od, osl, mg1, kp1, lk1, cd1, bd1⟩ := L.ex
  refine okT F sc__law_square_right (fun vs H Q E h => ?_) (fun A outer s H vs Q E hr hgd h => ?_)
  · obtain ⟨G, rd, dr, fs, x, o, rfl, _⟩ := h
    rfl
  · obtain ⟨G, rw_, dr, fs, x, o, rfl, sG, nT, tT, hrd, hfs, hx, fin⟩ := h
    have nd := sc__law_square_right.nd
    refine ⟨_, (pss_cons (ps_set (i := 2) nd rfl (Or.inl rfl) (pe_cO cD hr (by decide) rfl (pa_cons (pv 1) (pa_cons (pv 1) (pa_cons (pv 1) pa_nil)))))
      (pss_cons (ps_set (i := 3) nd rfl (Or.inl rfl) (pe_lst (pa_cons (pe_lamcall (T := T) (TT := TPart K CE) (a := "_law_call") (Ng := N__law_part) (k := 6) (t := fun E => ClX.tCMeth C (spSq K C CE) E (tC (.ref C)) (tCons (tVar 1) tNil)) rfl mg1 kp1 lk1 cd1 bd1 sc__law_part rfl (Or.inl rfl) (part_gives L.xf L.no L.gl L.em) F.tb rfl F.mem F.uni (hr.mono (by decide)) (lamS_by (by rfl)) rfl (fun _ _ _ _ _ => rfl) (fun A outer s H E f c' hr' => ClX.pe_cmeth (pe_glob (v := .ref C) (by rfl) mC rfl) rd cm okS hr' (passes_call (takes_of rfl rfl rfl rfl) (fun _ _ _ _ h => h)) (pa_cons (pv 1) pa_nil))) pa_nil)))
      (pss_cons (ps_expr (pe_bm PySem.F.plainAttrs_list PySem.F.slot_list_append PySem.F.type_list_append mt_append (pv 3) (pa_cons (pe_lamcall (T := T) (TT := TPart K CE) (a := "_law_call") (Ng := N__law_part) (k := 6) (t := fun E => ClX.tCMeth C (spSq K C CE) E (tC (.ref C)) (tCons (tVar 1) tNil)) rfl mg1 kp1 lk1 cd1 bd1 sc__law_part rfl (Or.inl rfl) (part_gives L.xf L.no L.gl L.em) F.tb rfl F.mem F.uni (hr.mono (by decide)) (lamS_by (by rfl)) rfl (fun _ _ _ _ _ => rfl) (fun A outer s H E f c' hr' => pe_cmK (pe_glob (v := .ref C) (by rfl) mC rfl) rd cm okS2 hr' (passes_call (takes_of rfl rfl rfl rfl) (fun _ _ _ _ h => h)) (pv 1) hbS)) pa_nil)))
      (pss_cons (ps_expr (pe_bm PySem.F.plainAttrs_list PySem.F.slot_list_append PySem.F.type_list_append mt_append (pv 3) (pa_cons (pe_lamcall (T := T) (TT := TPart K CE) (a := "_law_call") (Ng := N__law_part) (k := 6) (t := fun E => ClX.tIMethD C "square" (spSq K C CE) E (tVar 0) (tCons (tVar 1) tNil)) rfl mg1 kp1 lk1 cd1 bd1 sc__law_part rfl (Or.inl rfl) (part_gives L.xf L.no L.gl L.em) F.tb rfl F.mem F.uni (hr.mono (by decide)) (lamS_by (by rfl)) rfl (fun _ _ _ _ _ => rfl) (fun A outer s H E f c' hr' => ClX.pe_imethD (pv 0) ci okS hr' (passes_call (takes_of rfl rfl rfl rfl) (fun _ _ _ _ h => h)) (pa_cons (pv 1) pa_nil))) pa_nil)))
      (pss_cons (ps_if (pt_cmpR (op_neD hr.units) (pv 3) (pe_op op_rep (pe_lst (pa_cons (pv 2) pa_nil)) pe_int) (nomark _)) (pss_one (ps_ret pe_bl)) pss_nil)
      (pss_cons (ps_if (pt_cmpR (op_neD hr.units) (pv 2) (pe_lst pa_nil) (nomark _)) (pss_one (ps_ret pe_bl)) pss_nil)
      (pss_cons (ps_set (i := 4) nd rfl (Or.inl rfl) (pe_make mk okI (hr.mono (by decide)) rfl mC bI .nil passX0 (pa_cons (pv 1) (pa_cons (pv 1) (pa_cons (pv 1) pa_nil)))))
      (pss_one (ps_ret (pe_and (pe_cmpR (op_eqW we hr (by decide)) (ClX.pe_cmeth (pe_glob (v := .ref C) (by rfl) mC rfl) rd cm okS (hr.mono (by decide)) passX0 (pa_cons (pv 1) pa_nil)) (pv 4) (nomark _)) (pe_one (pe_cmpR (op_eqW we hr (by decide)) (ClX.pe_imethD (pv 0) ci okS (hr.mono (by decide)) passX0 (pa_cons (pv 1) pa_nil)) (pv 4) (nomark _))))))))))))), ?_⟩
    obtain ⟨ds, hds, sh1, sh3, eq3, eq0⟩ := sq_data o
    refine ⟨_, rfl, _, rfl, _, rfl, G, x, x, x, o, o, o, rfl, sG, hx, hx, hx, fun p hp => ?_⟩
    have s1 : Same H (upd H p (.lst (dueO o o o))) := Same.new hp
    have gp : Same G (upd H p (.lst (dueO o o o))) := sG.trans s1
    have ap : (upd H p (.lst (dueO o o o))) p = some (.lst (dueO o o o)) := upd_same
    have tp := tT.ext s1
    have xp : ExtN H (upd H p (.lst (dueO o o o))) := ExtN.of s1
    generalize (upd H p (.lst (dueO o o o))) = H4 at gp ap tp xp ⊢
    refine ⟨tp, fun H5 x5 t5 E5 N5 n5 e5 => ⟨rfl, _, rfl, x, rfl, tl_make (sameX nT gp x5) hx hx hx (fun q1 H6 s6 a1 => ?_) n5 e5⟩⟩
    refine ⟨(by show 1 ≤ sizeLine; decide), fun L hL => ?_⟩
    have g6 : Same G H6 := (sameX nT gp x5).trans s6
    have gL : G L = none := g6.free hL
    have ap6 : H6 p = some (.lst (dueO o o o)) := s6 _ _ (x5 _ _ ap (fun ps z => by cases z))
    have b7 : (upd H6 L (.lst [.ref q1])) L = some (.lst [.ref q1]) := upd_same
    have a7 : (upd H6 L (.lst [.ref q1])) q1 = some (.lst (dueO o o o)) := by
      rw [upd_ne (ne_of_none a1 hL)]
      exact a1
    have n1 : q1 ≠ L := ne_of_none a1 hL
    have np : p ≠ L := ne_of_none ap6 hL
    have t7 : Tabs T (upd H6 L (.lst [.ref q1])) := (t5.ext s6).ext (Same.new hL)
    have g7 : Same G (upd H6 L (.lst [.ref q1])) := g6.trans (Same.new hL)
    have x7 : ExtN H4 (upd H6 L (.lst [.ref q1])) := x5.trans (ExtN.of (s6.trans (Same.new hL)))
    have hn : ∀ b u, H4 b = some u → (∀ ps, u ≠ .tbl ps) → b ≠ L := fun b u e nb z => by
      have e2 := (x5.trans (ExtN.of s6)) b u e nb
      rw [z, hL] at e2
      cases e2
    generalize (upd H6 L (.lst [.ref q1])) = H7 at b7 a7 t7 g7 x7 ⊢
    refine ⟨_, rfl, .inl ⟨rfl, _, SqL.of b7⟩, t7, fun H8 x8 t8 E8 N8 n8 e8 => ⟨rfl, _, rfl, x, rfl, tl_make (sameX nT g7 x8) hx hx hx (fun q2 H9 s9 a9 => ?_) n8 e8⟩⟩
    have gB : Same G H9 := (sameX nT g7 x8).trans s9
    have bB : H9 L = some (.lst [.ref q1]) := s9 _ _ (x8 _ _ b7 (fun ps z => by cases z))
    have aB : H9 q1 = some (.lst (dueO o o o)) := s9 _ _ (x8 _ _ a7 (fun ps z => by cases z))
    refine ⟨L, [.ref q1], _, rfl, rfl, bB, (by show 1 < sizeLine; decide), ?_⟩
    have q2L : q2 ≠ L := fun z => by
      rw [z, bB] at a9
      exact due_ne (by injection a9 with a9; injection a9 with a9; exact a9.symm)
    have tC1 : Tabs T (upd H9 L (.lst [.ref q1, .ref q2])) := tabs_put (t8.ext s9) bB
    have gC : Same G (upd H9 L (.lst [.ref q1, .ref q2])) := Fut.mut gB gL
    have bC : (upd H9 L (.lst [.ref q1, .ref q2])) L = some (.lst [.ref q1, .ref q2]) := upd_same
    have aC1 : (upd H9 L (.lst [.ref q1, .ref q2])) q1 = some (.lst (dueO o o o)) := by
      rw [upd_ne n1]
      exact aB
    have aC2 : (upd H9 L (.lst [.ref q1, .ref q2])) q2 = some (.lst (dueO o o o)) := by
      rw [upd_ne q2L]
      exact a9
    have xC : ExtN H4 (upd H9 L (.lst [.ref q1, .ref q2])) := fun b u e nb => by
      rw [upd_ne (hn b u e nb)]
      exact s9 _ _ (x8 _ _ (x7 b u e nb) nb)
    rw [show ([V.ref q1] ++ [V.ref q2]) = [V.ref q1, V.ref q2] from rfl]
    generalize (upd H9 L (.lst [.ref q1, .ref q2])) = HC at bC aC1 aC2 tC1 gC xC ⊢
    refine ⟨_, rfl, .inl ⟨rfl, _, SqL.of bC⟩, tC1, fun HD xD tD ED ND nD eD => ⟨_, rfl, rw_, dr, fs, rfl, (sameX nT gC xD) _ _ hrd, hfs, _, rfl, x, rfl, tl_make (sameX nT gC xD) hx hx hx (fun q3 HE sE aE => ?_) nD eD⟩⟩
    have gE : Same G HE := (sameX nT gC xD).trans sE
    have bE : HE L = some (.lst [.ref q1, .ref q2]) := sE _ _ (xD _ _ bC (fun ps z => by cases z))
    have aE1 : HE q1 = some (.lst (dueO o o o)) := sE _ _ (xD _ _ aC1 (fun ps z => by cases z))
    have aE2 : HE q2 = some (.lst (dueO o o o)) := sE _ _ (xD _ _ aC2 (fun ps z => by cases z))
    refine ⟨L, [.ref q1, .ref q2], _, rfl, rfl, bE, (by show 2 < sizeLine; decide), ?_⟩
    have q3L : q3 ≠ L := fun z => by
      rw [z, bE] at aE
      exact due_ne (by injection aE with aE; injection aE with aE; exact aE.symm)
    have tF : Tabs T (upd HE L (.lst [.ref q1, .ref q2, .ref q3])) := tabs_put (tD.ext sE) bE
    have gF : Same G (upd HE L (.lst [.ref q1, .ref q2, .ref q3])) := Fut.mut gE gL
    have bF : (upd HE L (.lst [.ref q1, .ref q2, .ref q3])) L = some (.lst [.ref q1, .ref q2, .ref q3]) := upd_same
    have aF1 : (upd HE L (.lst [.ref q1, .ref q2, .ref q3])) q1 = some (.lst (dueO o o o)) := by
      rw [upd_ne n1]
      exact aE1
    have aF2 : (upd HE L (.lst [.ref q1, .ref q2, .ref q3])) q2 = some (.lst (dueO o o o)) := by
      rw [upd_ne q2L]
      exact aE2
    have aF3 : (upd HE L (.lst [.ref q1, .ref q2, .ref q3])) q3 = some (.lst (dueO o o o)) := by
      rw [upd_ne q3L]
      exact aE
    have xF : ExtN H4 (upd HE L (.lst [.ref q1, .ref q2, .ref q3])) := fun b u e nb => by
      rw [upd_ne (hn b u e nb)]
      exact sE _ _ (xD _ _ (xC b u e nb) nb)
    rw [show ([V.ref q1, V.ref q2] ++ [V.ref q3]) = [V.ref q1, V.ref q2, V.ref q3] from rfl]
    generalize (upd HE L (.lst [.ref q1, .ref q2, .ref q3])) = HF at bF aF1 aF2 aF3 tF gF xF ⊢
    refine ⟨_, rfl, _, rfl, (by show 1 ≤ sizeLine; decide), fun L2 hL2 => ⟨L2, 3, [.ref p], rfl, rfl, upd_same, by decide, by decide, (by show 1 * 3 ≤ sizeLine; decide), fun L3 hL3 => ?_⟩⟩
    have xq := xF p _ ap (fun ps z => by cases z)
    have w3 : Same HF (upd (upd HF L2 (.lst [.ref p])) L3 (.lst (List.replicate (3 : Int).toNat [V.ref p]).flatten)) := (Same.new hL2).trans (Same.new hL3)
    have c1 := w3 _ _ aF1
    have c2 := w3 _ _ aF2
    have c3 := w3 _ _ aF3
    have cL := w3 _ _ bF
    have cp := w3 _ _ xq
    have l3 : (upd (upd HF L2 (.lst [.ref p])) L3 (.lst (List.replicate (3 : Int).toNat [V.ref p]).flatten)) L3 = some (.lst [.ref p, .ref p, .ref p]) := upd_same
    have gG := gF.trans w3
    have tG := tF.ext w3
    have xG := xF.trans (ExtN.of w3)
    generalize (upd (upd HF L2 (.lst [.ref p])) L3 (.lst (List.replicate (3 : Int).toNat [V.ref p]).flatten)) = HG at c1 c2 c3 cL cp l3 gG tG xG ⊢
    refine ⟨.list [.list ds, .list ds, .list ds], .list [.list ds, .list ds, .list ds], .lst (SqL.of cL) (.cons (.lst (SqL.of c1) (hds _ _)) (.cons (.lst (SqL.of c2) (hds _ _)) (.cons (.lst (SqL.of c3) (hds _ _)) .nil))), .lst (SqL.of l3) (.cons (.lst (SqL.of cp) (hds _ _)) (.cons (.lst (SqL.of cp) (hds _ _)) (.cons (.lst (SqL.of cp) (hds _ _)) .nil))), sh3, sh3, _, rfl, ?_⟩
    rw [eq3]
    refine iteF ?_
    refine ⟨_, rfl, (by show 0 ≤ sizeLine; decide), fun L4 hL4 => ?_⟩
    have w4 : Same HG (upd HG L4 (.lst [])) := Same.new hL4
    have cp4 := w4 _ _ cp
    have l4 : (upd HG L4 (.lst [])) L4 = some (.lst []) := upd_same
    have gH := gG.trans w4
    have tH := tG.ext w4
    have xH := xG.trans (ExtN.of w4)
    generalize (upd HG L4 (.lst [])) = HH at cp4 l4 gH tH xH ⊢
    refine ⟨.list ds, .list [], .lst (SqL.of cp4) (hds _ _), .lst (SqL.of l4) .nil, sh1, rfl, _, rfl, ?_⟩
    rw [eq0]
    rcases sq_part o with ⟨n, eo, n1', n6, en⟩ | en
    · rw [en, decide_eq_true rfl]
      refine iteF ?_
      refine ⟨_, rfl, _, rfl, _, rfl, fun a dx na ndx nad => ?_⟩
      have up2 : Same HH (upd (upd HH dx (.own a)) a (.ins C dx [])) := (Same.new ndx).trans (Same.new (by rw [upd_ne nad.symm]; exact na))
      refine ⟨G, a, dx, x, x, x, o, o, o, rfl, gH.trans up2, gH.free na, upd_same, hx, hx, hx, fun r l k e1 e2 e3 b1 b2 b3 b4 b5 b6 t1 G1 H1 sg1 sh1' keep1 fr1 na1 at1 dp1 => ⟨rfl, ?_⟩, fun ps e d hd => ?_⟩
      · subst eo
        have er : n = r := by injection e1 with z; omega
        have el : n = l := by injection e2 with z; omega
        have ek : n = k := by injection e3 with z; omega
        subst er el ek
        have WA : WayAt K C H1 a n n n (fun _ _ => rangeI n) := ⟨⟨dx, t1, at1, Dp.mono sh1' _ _ dp1⟩, b1, b2, b3, b4, b5, b6, fun _ _ _ _ => cell_range (by omega)⟩
        have S1 : Same HH H1 := fun b u e => keep1 b u (up2 b u e) (ne_of_none e na)
        have gI := gH.trans S1
        have tI := tH.ext S1
        have xI := xH.trans (ExtN.of S1)
        refine ⟨rfl, _, rfl, x, rfl, fun a2 dx2 na2 ndx2 nad2 => ?_⟩
        have up3 : Same H1 (upd (upd H1 dx2 (.own a2)) a2 (.ins C dx2 [])) := (Same.new ndx2).trans (Same.new (by rw [upd_ne nad2.symm]; exact na2))
        refine ⟨G, a2, dx2, x, x, x, _, _, _, rfl, gI.trans up3, gI.free na2, upd_same, hx, hx, hx, fun r2 l2 k2 e1 e2 e3 b1 b2 b3 b4 b5 b6 t2 G2 H2 sg2 sh2' keep2 fr2 na2' at2 dp2 => ⟨rfl, ?_⟩, fun ps e d hd => ?_⟩
        · have er : n = r2 := by injection e1 with z; omega
          have el : n = l2 := by injection e2 with z; omega
          have ek : n = k2 := by injection e3 with z; omega
          subst er el ek
          have WB : WayAt K C H2 a2 n n n (fun _ _ => rangeI n) := ⟨⟨dx2, t2, at2, Dp.mono sh2' _ _ dp2⟩, b1, b2, b3, b4, b5, b6, fun _ _ _ _ => cell_range (by omega)⟩
          have S2 : Same H1 H2 := fun b u e => keep2 b u (up3 b u e) (ne_of_none e na2)
          have WA2 := WA.mono S2
          have gJ := gI.trans S2
          have tJ := tI.ext S2
          have xJ := xI.trans (ExtN.of S2)
          have tyA : TyX K H2 (.ref a) (.ref C) := .base (.ins (S2 _ _ at1) we.cl we.ha we.hn we.htk we.hm)
          refine ⟨_, rfl, a2, dx2, _, .ref C, rfl, at2, tyA, nf_self, H2, a2, .ref a, n, n, n, _, rfl, Same.refl _, WB, .inl ⟨a, n, n, n, _, rfl, WA2, true, by rw [decide_eq_true rfl, decide_eq_true rfl]; rfl, ?_⟩⟩
          refine ⟨true, rfl, ?_⟩
          refine iteT ?_
          refine ⟨_, rfl, rw_, dr, fs, rfl, gJ _ _ hrd, hfs, _, rfl, x, rfl, fun a3 dx3 na3 ndx3 nad3 => ?_⟩
          have up4 : Same H2 (upd (upd H2 dx3 (.own a3)) a3 (.ins C dx3 [])) := (Same.new ndx3).trans (Same.new (by rw [upd_ne nad3.symm]; exact na3))
          refine ⟨G, a3, dx3, x, x, x, _, _, _, rfl, gJ.trans up4, gJ.free na3, upd_same, hx, hx, hx, fun r3 l3' k3 e1 e2 e3 b1 b2 b3 b4 b5 b6 t3 G3 H3 sg3 sh3' keep3 fr3 na3' at3 dp3 => ⟨rfl, ?_⟩, fun ps e d hd => ?_⟩
          · have er : n = r3 := by injection e1 with z; omega
            have el : n = l3' := by injection e2 with z; omega
            have ek : n = k3 := by injection e3 with z; omega
            subst er el ek
            have WC : WayAt K C H3 a3 n n n (fun _ _ => rangeI n) := ⟨⟨dx3, t3, at3, Dp.mono sh3' _ _ dp3⟩, b1, b2, b3, b4, b5, b6, fun _ _ _ _ => cell_range (by omega)⟩
            have S3 : Same H2 H3 := fun b u e => keep3 b u (up4 b u e) (ne_of_none e na3)
            have WA3 := WA2.mono S3
            have tyA3 : TyX K H3 (.ref a) (.ref C) := .base (.ins (S3 _ _ (S2 _ _ at1)) we.cl we.ha we.hn we.htk we.hm)
            refine ⟨_, rfl, a3, dx3, _, .ref C, rfl, at3, tyA3, nf_self, H3, a3, .ref a, n, n, n, _, rfl, Same.refl _, WC, .inl ⟨a, n, n, n, _, rfl, WA3, true, by rw [decide_eq_true rfl, decide_eq_true rfl]; rfl, ?_⟩⟩
            exact fin _ ((xp.trans xJ).trans (ExtN.of S3)) (tJ.ext S3)
          · rw [en] at e
            cases e
        · rw [en] at e
          cases e
      · rw [en] at e
        cases e
    · rw [en, decide_eq_false (by intro z; cases z)]
      refine iteT ?_
      exact fin _ (xp.trans xH) tH
end
end W2

set_option maxHeartbeats 1000000
/-! Pp0: readings that compute: data, worlds, answers. -/
namespace Pp
open PySem PySem.Spec PyProof.Rows L2 Pg Pf LamX
/-- what is fixed through a law: the tables of code objects, the own classes by numbers -/
structure Zn where
  T : List (Addr × Str)
  cl : Nat → Addr
/-- the attributes of the own classes, in the order in which they are set: Way, Plan, Crossing, LoggedCrossing -/
def nm : Nat → List Str
  | 0 => ["_rights", "_lefts", "_places", "_table"]
  | 1 => ["_way", "_cells"]
  | 2 => ["_way", "_right_spots", "_left_spots", "_cells"]
  | 3 => ["_way", "_right_spots", "_left_spots", "_cells", "_log"]
  | _ => []
/-- data: what a value stands for -/
inductive D where
  | non | bl (b : Bool) | int (i : Int) | str (x : Str) | tup (ds : List D) | lst (ds : List D)
  /-- an instance of an own class, whole -/
  | obj (c : Nat) (ds : List D)
  /-- any object, by its address alone -/
  | adr (a : Addr)
  /-- {} -/
  | emp
mutual
inductive Dv (K : PySem.W.Frag) (Z : Zn) (G : Hp) : V → D → Prop
  | non : Dv K Z G .non .non
  | bl (b : Bool) : Dv K Z G (.bl b) (.bl b)
  | int (i : Int) : Dv K Z G (.int i) (.int i)
  | str (x : Str) : Dv K Z G (.str x) (.str x)
  | tup {a : Addr} {vs : List V} {ds : List D} (h : SqT K G a vs) (hs : DvA K Z G vs ds) : Dv K Z G (.ref a) (.tup ds)
  | lst {a : Addr} {vs : List V} {ds : List D} (h : G a = some (.lst vs)) (hs : DvA K Z G vs ds) : Dv K Z G (.ref a) (.lst ds)
  | obj {a : Addr} {c : Nat} {dx : Addr} {fs : List (Str × V)} {ds : List D} (h : G a = some (.ins (Z.cl c) dx fs)) (hn : fs.map Prod.fst = nm c) (hs : DvA K Z G (fs.map Prod.snd) ds) : Dv K Z G (.ref a) (.obj c ds)
  | adr (a : Addr) : Dv K Z G (.ref a) (.adr a)
  | emp {a : Addr} (h : G a = some (.dK [])) : Dv K Z G (.ref a) .emp
inductive DvA (K : PySem.W.Frag) (Z : Zn) (G : Hp) : List V → List D → Prop
  | nil : DvA K Z G [] []
  | cons {v : V} {d : D} {vs : List V} {ds : List D} (h : Dv K Z G v d) (hs : DvA K Z G vs ds) : DvA K Z G (v :: vs) (d :: ds)
end
mutual
theorem Dv.mono {K : PySem.W.Frag} {Z : Zn} {H H' : Hp} (e : Same H H') : ∀ (d : D) (v : V), Dv K Z H v d → Dv K Z H' v d
  | .non, _, h => by cases h; exact .non
  | .bl _, _, h => by cases h; exact .bl _
  | .int _, _, h => by cases h; exact .int _
  | .str _, _, h => by cases h; exact .str _
  | .lst ds, _, h => by
    cases h with
    | lst a b => exact .lst (e _ _ a) (DvA.mono e ds _ b)
  | .tup ds, _, h => by
    cases h with
    | tup a b => exact .tup (Evl.ex_t e a) (DvA.mono e ds _ b)
  | .obj _ ds, _, h => by
    cases h with
    | obj a n b => exact .obj (e _ _ a) n (DvA.mono e ds _ b)
  | .adr _, _, h => by cases h; exact .adr _
  | .emp, _, h => by
    cases h with
    | emp a => exact .emp (e _ _ a)
theorem DvA.mono {K : PySem.W.Frag} {Z : Zn} {H H' : Hp} (e : Same H H') : ∀ (ds : List D) (vs : List V), DvA K Z H vs ds → DvA K Z H' vs ds
  | [], _, h => by cases h; exact .nil
  | d :: ds, _, h => by
    cases h with
    | cons a b => exact .cons (Dv.mono e d _ a) (DvA.mono e ds _ b)
end
section
variable {K : PySem.W.Frag} {Z : Zn} {G : Hp}
theorem DvA.len : ∀ {vs : List V} {ds : List D}, DvA K Z G vs ds → vs.length = ds.length
  | _, _, .nil => rfl
  | _, _, .cons _ b => by rw [List.length_cons, List.length_cons, DvA.len b]
theorem DvA.at : ∀ {vs : List V} {ds : List D} {i : Nat} {d : D}, DvA K Z G vs ds → ds[i]? = some d → ∃ v, vs[i]? = some v ∧ Dv K Z G v d
  | _, _, 0, d, .cons a b, h => ⟨_, rfl, by
    have e := Option.some.inj h
    rw [← e]
    exact a⟩
  | _, _, i + 1, d, .cons a b, h => DvA.at (i := i) b h
  | _, _, i, d, .nil, h => by simp at h
theorem DvA.at' : ∀ {vs : List V} {ds : List D} {i : Nat} {v : V}, DvA K Z G vs ds → vs[i]? = some v → ∃ d, ds[i]? = some d ∧ Dv K Z G v d
  | _, _, 0, d, .cons a b, h => ⟨_, rfl, by
    have e := Option.some.inj h
    rw [← e]
    exact a⟩
  | _, _, i + 1, d, .cons a b, h => DvA.at' (i := i) b h
  | _, _, i, d, .nil, h => by simp at h
theorem DvA.app : ∀ {vs ws : List V} {ds es : List D}, DvA K Z G vs ds → DvA K Z G ws es → DvA K Z G (vs ++ ws) (ds ++ es)
  | _, _, _, _, .nil, h => h
  | _, _, _, _, .cons a b, h => .cons a (DvA.app b h)
theorem DvA.snoc {vs : List V} {ds : List D} {v : V} {d : D} (h : DvA K Z G vs ds) (k : Dv K Z G v d) : DvA K Z G (vs ++ [v]) (ds ++ [d]) := h.app (.cons k .nil)
theorem DvA.rev : ∀ {vs : List V} {ds : List D}, DvA K Z G vs ds → DvA K Z G vs.reverse ds.reverse
  | _, _, .nil => .nil
  | _, _, .cons a b => by
    rw [List.reverse_cons, List.reverse_cons]
    exact b.rev.snoc a
theorem DvA.take : ∀ {vs : List V} {ds : List D} (n : Nat), DvA K Z G vs ds → DvA K Z G (vs.take n) (ds.take n)
  | _, _, 0, _ => by rw [List.take_zero, List.take_zero]; exact .nil
  | _, _, n + 1, .nil => .nil
  | _, _, n + 1, .cons a b => .cons a (b.take n)
theorem DvA.drop : ∀ {vs : List V} {ds : List D} (n : Nat), DvA K Z G vs ds → DvA K Z G (vs.drop n) (ds.drop n)
  | _, _, 0, h => h
  | _, _, n + 1, .nil => .nil
  | _, _, n + 1, .cons a b => b.drop n
theorem DvA.set : ∀ {vs : List V} {ds : List D} {v : V} {d : D} (n : Nat), DvA K Z G vs ds → Dv K Z G v d → DvA K Z G (vs.set n v) (ds.set n d)
  | _, _, _, _, 0, .nil, _ => .nil
  | _, _, _, _, _ + 1, .nil, _ => .nil
  | _, _, _, _, 0, .cons a b, h => .cons h b
  | _, _, _, _, n + 1, .cons a b, h => .cons a (b.set n h)
theorem DvA.ints : ∀ (ns : List Int), DvA K Z G (ns.map V.int) (ns.map D.int)
  | [] => .nil
  | n :: ns => .cons (.int n) (DvA.ints ns)
end
/-- the state from which numbers are drawn -/
structure MS where
  m : Addr
  c : Addr
  q : Addr
  /-- so many have been drawn at most -/
  b : Nat
abbrev S := Option MS
def adr : S → Option (Addr × Addr × Addr)
  | none => none
  | some k => some (k.m, k.c, k.q)
def inS (s : S) (p : Addr) : Prop := match adr s with
  | none => False
  | some (m, c, q) => p = m ∨ p = c ∨ p = q
theorem inS_of {s s' : S} (e : adr s' = adr s) (p : Addr) : inS s' p = inS s p := by unfold inS; rw [e]
/-- G knows no table of code objects -/
def NoT (G : Hp) : Prop := ∀ b ps, G b ≠ some (.tbl ps)
def MR (V H : Hp) : S → Prop
  | none => True
  | some k => (∃ n : Int, H k.m = some (.dK [(kc, .ref k.c), (kg, .ref k.q), (ks, .int n)]) ∧ 0 ≤ n ∧ n ≤ k.b) ∧ (∃ cs : List Int, H k.c = some (.lst (cs.map L2.V.int)) ∧ cs.length = 64) ∧ (∃ gs : List Int, H k.q = some (.lst (gs.map L2.V.int)) ∧ gs.length ≤ 63) ∧ V k.m = none ∧ V k.c = none ∧ V k.q = none ∧ k.c ≠ k.q
structure Wd (T : List (Addr × Str)) (V H : Hp) (s : S) : Prop where
  sv : Same V H
  nt : NoT V
  tb : Tabs T H
  mr : MR V H s
theorem MR.inV {V H : Hp} {s : S} (h : MR V H s) {p : Addr} (e : inS s p) : V p = none := by
  cases s with
  | none => exact e.elim
  | some k =>
    obtain ⟨_, _, _, a, b, c, _⟩ := h
    rcases e with rfl | rfl | rfl
    · exact a
    · exact b
    · exact c
theorem MR.inH {V H : Hp} {s : S} (h : MR V H s) {p : Addr} (e : inS s p) : H p ≠ none := by
  cases s with
  | none => exact e.elim
  | some k =>
    obtain ⟨⟨_, a, _⟩, ⟨_, b, _⟩, ⟨_, c, _⟩, _⟩ := h
    rcases e with rfl | rfl | rfl
    · rw [a]; simp
    · rw [b]; simp
    · rw [c]; simp
/-- free, or a table of code objects -/
def Fre (H : Hp) (p : Addr) : Prop := H p = none ∨ ∃ ps, H p = some (.tbl ps)
theorem fre_ne {H : Hp} {a p : Addr} {o : HO} (e : H a = some o) (n : ∀ ps, o ≠ .tbl ps) (f : Fre H p) : a ≠ p := fun z => by
  subst z
  rcases f with f | ⟨ps, f⟩
  · rw [e] at f
    cases f
  · rw [e] at f
    exact n ps (Option.some.inj f)
/-- from (V, H) and s to (V', H') and s': nothing that stood has changed but the state's own objects and tables; what V' knows anew is new -/
structure Nx (s s' : S) (V H V' H' : Hp) : Prop where
  a : adr s' = adr s
  g : Same V V'
  h : ∀ p o, H p = some o → (∀ ps, o ≠ .tbl ps) → ¬ inS s p → H' p = some o
  n : ∀ p, V' p ≠ none → V p ≠ none ∨ Fre H p
  k : ∀ p, Fre H' p → Fre H p
section
variable {T : List (Addr × Str)} {s s' s'' : S} {V H V' H' V'' H'' : Hp}
theorem Nx.refl (s : S) (V H : Hp) : Nx s s V H V H := ⟨rfl, Same.refl _, fun _ _ e _ _ => e, fun _ e => .inl e, fun _ e => e⟩
theorem Nx.trans (x : Nx s s' V H V' H') (y : Nx s' s'' V' H' V'' H'') : Nx s s'' V H V'' H'' :=
  ⟨y.a.trans x.a, x.g.trans y.g, fun p o e n i => y.h p o (x.h p o e n i) n (by rw [inS_of x.a]; exact i), fun p e => (y.n p e).elim (x.n p) fun z => .inr (x.k p z), fun p e => x.k p (y.k p e)⟩
/-- what V does not know of the old heap, V' does not -/
theorem Nx.not (x : Nx s s' V H V' H') {p : Addr} {u : HO} (e : V p = none) (h : H p = some u) (nt : ∀ ps, u ≠ .tbl ps) : V' p = none := by
  cases z : V' p with
  | none => rfl
  | some o => exact ((x.n p (by rw [z]; simp)).elim (fun y => absurd e y) fun y => absurd rfl (fre_ne h nt y))
/-- a new object, known from now on -/
theorem Nx.new {p : Addr} {o : HO} (w : Wd T V H s) (h : H p = none) : Nx s s V H (upd V p o) (upd H p o) :=
  ⟨rfl, Same.new (w.sv.free h), fun b u e _ _ => by rw [upd_ne (ne_of_none e h)]; exact e, fun b e => by
    by_cases q : b = p
    · exact .inr (.inl (q ▸ h))
    · rw [upd_ne q] at e
      exact .inl e, fun b e => by
    by_cases q : b = p
    · exact .inl (q ▸ h)
    · unfold Fre at e
      rw [upd_ne q] at e
      exact e⟩
/-- a new object, not known for good -/
theorem Nx.up {p : Addr} {o : HO} (h : H p = none) : Nx s s V H V (upd H p o) :=
  ⟨rfl, Same.refl _, fun b u e _ _ => by rw [upd_ne (ne_of_none e h)]; exact e, fun b e => .inl e, fun b e => by
    by_cases q : b = p
    · exact .inl (q ▸ h)
    · unfold Fre at e
      rw [upd_ne q] at e
      exact e⟩
/-- the new object at p changes -/
theorem Nx.mut {p : Addr} {o : HO} (x : Nx s s' V H V' H') (h : Fre H p) : Nx s s' V H V' (upd H' p o) :=
  ⟨x.a, x.g, fun b u e n i => by rw [upd_ne (fre_ne e n h)]; exact x.h b u e n i, x.n, fun b e => by
    by_cases q : b = p
    · exact q ▸ h
    · unfold Fre at e
      rw [upd_ne q] at e
      exact x.k b e⟩
/-- .. is known from now on -/
theorem Nx.freeze {p : Addr} {o : HO} (x : Nx s s' V H V' H') (h : Fre H p) (v : V' p = none) : Nx s s' V H (upd V' p o) H' :=
  ⟨x.a, x.g.trans (Same.new v), x.h, fun b e => by
    by_cases q : b = p
    · exact .inr (q ▸ h)
    · rw [upd_ne q] at e
      exact x.n b e, x.k⟩
theorem NoT.put {G : Hp} {p : Addr} {o : HO} (h : NoT G) (ho : ∀ ps, o ≠ .tbl ps) : NoT (upd G p o) := fun b ps e => by
  by_cases z : b = p
  · rw [z, upd_same] at e
    exact ho ps (Option.some.inj e)
  · rw [upd_ne z] at e
    exact h b ps e
theorem Wd.new {p : Addr} {o : HO} (w : Wd T V H s) (h : H p = none) (ho : ∀ ps, o ≠ .tbl ps) : Wd T (upd V p o) (upd H p o) s := by
  refine ⟨fun b u e => ?_, w.nt.put ho, w.tb.ext (Same.new h), ?_⟩
  · by_cases q : b = p
    · rw [q, upd_same] at e ⊢
      exact e
    · rw [upd_ne q] at e ⊢
      exact w.sv _ _ e
  · cases s with
    | none => exact trivial
    | some k =>
      obtain ⟨⟨n, a1, b1⟩, ⟨cs, a2, b2⟩, ⟨gs, a3, b3⟩, a4, a5, a6, a7⟩ := w.mr
      have n1 := ne_of_none a1 h
      have n2 := ne_of_none a2 h
      have n3 := ne_of_none a3 h
      exact ⟨⟨n, by rw [upd_ne n1]; exact a1, b1⟩, ⟨cs, by rw [upd_ne n2]; exact a2, b2⟩, ⟨gs, by rw [upd_ne n3]; exact a3, b3⟩, by rw [upd_ne n1]; exact a4, by rw [upd_ne n2]; exact a5, by rw [upd_ne n3]; exact a6, a7⟩
theorem Wd.up {p : Addr} {o : HO} (w : Wd T V H s) (h : H p = none) : Wd T V (upd H p o) s := by
  refine ⟨w.sv.trans (Same.new h), w.nt, w.tb.ext (Same.new h), ?_⟩
  cases s with
  | none => exact trivial
  | some k =>
    obtain ⟨⟨n, a1, b1⟩, ⟨cs, a2, b2⟩, ⟨gs, a3, b3⟩, a4⟩ := w.mr
    exact ⟨⟨n, by rw [upd_ne (ne_of_none a1 h)]; exact a1, b1⟩, ⟨cs, by rw [upd_ne (ne_of_none a2 h)]; exact a2, b2⟩, ⟨gs, by rw [upd_ne (ne_of_none a3 h)]; exact a3, b3⟩, a4⟩
theorem tabs_put {T : List (Addr × Str)} {H : Hp} {L : Addr} {u o : HO} (t : Tabs T H) (h : H L = some u) (hu : ∀ ps, u ≠ .tbl ps) (hx : ∀ φ, u ≠ .ext φ) : Tabs T (upd H L o) := fun p hp => by
  obtain ⟨ps, h1, h2, h3⟩ := t p hp
  refine ⟨ps, by rw [upd_ne (ne_of h1 h (by intro z; exact hu _ z.symm))]; exact h1, h2, fun pos cv hc => ?_⟩
  obtain ⟨c, e1, e2⟩ := h3 pos cv hc
  exact ⟨c, e1, by rw [upd_ne (ne_of e2 h (by intro z; exact hx _ z.symm))]; exact e2⟩
/-- an object that stands, not known for good, no table, changes -/
theorem Wd.mut {p : Addr} {u o : HO} (w : Wd T V H s) (e : H p = some u) (v : V p = none) (i : ¬ inS s p) (hu : ∀ ps, u ≠ .tbl ps) (hx : ∀ φ, u ≠ .ext φ) : Wd T V (upd H p o) s := by
  refine ⟨fun b q z => by rw [upd_ne (ne_of_none z v)]; exact w.sv _ _ z, w.nt, tabs_put w.tb e hu hx, ?_⟩
  cases s with
  | none => exact trivial
  | some k =>
    obtain ⟨⟨n, a1, b1⟩, ⟨cs, a2, b2⟩, ⟨gs, a3, b3⟩, a4⟩ := w.mr
    have n1 : k.m ≠ p := fun z => i (.inl z.symm)
    have n2 : k.c ≠ p := fun z => i (.inr (.inl z.symm))
    have n3 : k.q ≠ p := fun z => i (.inr (.inr z.symm))
    exact ⟨⟨n, by rw [upd_ne n1]; exact a1, b1⟩, ⟨cs, by rw [upd_ne n2]; exact a2, b2⟩, ⟨gs, by rw [upd_ne n3]; exact a3, b3⟩, a4⟩
theorem Wd.freeze {p : Addr} {o : HO} (w : Wd T V H s) (e : H p = some o) (ho : ∀ ps, o ≠ .tbl ps) (i : ¬ inS s p) : Wd T (upd V p o) H s := by
  refine ⟨fun b q z => ?_, w.nt.put ho, w.tb, ?_⟩
  · by_cases y : b = p
    · rw [y, upd_same] at z
      rw [y, e]
      exact z
    · rw [upd_ne y] at z
      exact w.sv _ _ z
  · cases s with
    | none => exact trivial
    | some k =>
      obtain ⟨a1, a2, a3, a4, a5, a6, a7⟩ := w.mr
      have n1 : k.m ≠ p := fun z => i (.inl z.symm)
      have n2 : k.c ≠ p := fun z => i (.inr (.inl z.symm))
      have n3 : k.q ≠ p := fun z => i (.inr (.inr z.symm))
      exact ⟨a1, a2, a3, by rw [upd_ne n1]; exact a4, by rw [upd_ne n2]; exact a5, by rw [upd_ne n3]; exact a6, a7⟩
end
/-- an exception: its class, its fields -/
structure Exc where
  c : Nat
  ns : List Str
  ds : List D
inductive R (α : Type) where
  | ok (a : α) (s : S)
  | ex (e : Exc) (s : S)
  | un
  /-- any number from 0 to below top -/
  | dr (top : Int) (k : Int → R α)
def R.bind {α β : Type} (r : R α) (k : α → S → R β) : R β := match r with
  | .ok a s => k a s
  | .ex e s => .ex e s
  | .un => .un
  | .dr t f => .dr t fun i => (f i).bind k
def ExR (K : PySem.W.Frag) (Z : Zn) (G : Hp) (cls : Value) (dd : Option Addr) (e : Exc) : Prop := cls = .ref (Z.cl e.c) ∧ ∃ (d : Addr) (fs : List (Str × V)), dd = some d ∧ G d = some (.xd fs) ∧ fs.map Prod.fst = e.ns ∧ DvA K Z G (fs.map Prod.snd) e.ds
/-- what an answer asks of what follows -/
def Ans {α β : Type} (K : PySem.W.Frag) (Z : Zn) (E : XK) (Rl : Hp → β → α → Prop) (r : R α) (s : S) (V H : Hp) (Q : β → Hp → Prop) : Prop := match r with
  | .ok d s' => ∀ v V' H', Nx s s' V H V' H' → Wd Z.T V' H' s' → Rl V' v d → Q v H'
  | .ex e s' => ∀ cls dd V' H', Nx s s' V H V' H' → Wd Z.T V' H' s' → ExR K Z V' cls dd e → E cls dd H'
  | .un => False
  | .dr t k => ∀ i, 0 ≤ i → i < t → Ans K Z E Rl (k i) s V H Q
/-- an object of one's own: a list, an instance -/
inductive OD where
  | ls (ds : List D) | is (c : Nat) (ns : List Str) (ds : List D)
def OD.d : OD → Option D
  | .ls ds => some (.lst ds)
  | .is c ns ds => if ns = nm c then some (.obj c ds) else none
inductive HD (K : PySem.W.Frag) (Z : Zn) (G : Hp) : HO → OD → Prop
  | ls {vs : List V} {ds : List D} (h : DvA K Z G vs ds) : HD K Z G (.lst vs) (.ls ds)
  | is {c : Nat} {dx : Addr} {fs : List (Str × V)} {ns : List Str} {ds : List D} (hn : fs.map Prod.fst = ns) (h : DvA K Z G (fs.map Prod.snd) ds) : HD K Z G (.ins (Z.cl c) dx fs) (.is c ns ds)
section
variable {K : PySem.W.Frag} {Z : Zn} {G G' : Hp} {u : HO} {o : OD} {a : Addr}
theorem HD.mono (e : Same G G') (h : HD K Z G u o) : HD K Z G' u o := by
  cases h with
  | ls h => exact .ls (DvA.mono e _ _ h)
  | is n h => exact .is n (DvA.mono e _ _ h)
theorem HD.nt (h : HD K Z G u o) : ∀ ps, u ≠ .tbl ps := fun ps z => by
  subst z
  cases h
theorem HD.ne (h : HD K Z G u o) : ∀ φ, u ≠ .ext φ := fun ps z => by
  subst z
  cases h
theorem HD.dv {d : D} (h : HD K Z G u o) (e : G a = some u) (hd : o.d = some d) : Dv K Z G (.ref a) d := by
  cases h with
  | ls h =>
    cases hd
    exact .lst e h
  | @is c dx fs ns ds n h =>
    replace hd : (if ns = nm c then some (D.obj c ds) else none) = some d := hd
    split at hd
    case isTrue y =>
      cases hd
      exact .obj e (n.trans y) h
    case isFalse => cases hd
end
/-- a slot: nothing is known; a value known for good; an object of one's own -/
inductive Sl where
  | no | fz (d : D) | ow (o : OD)
abbrev Slots := List Sl
structure Rep (K : PySem.W.Frag) (Z : Zn) (V H : Hp) (σ : L2.St) (ρ : Slots) (s : S) : Prop where
  fz : ∀ (i : Nat) (d : D), ρ[i]? = some (.fz d) → ∃ v, σ[i]? = some (some v) ∧ Dv K Z V v d
  ow : ∀ (i : Nat) (o : OD), ρ[i]? = some (.ow o) → ∃ a u, σ[i]? = some (some (.ref a)) ∧ H a = some u ∧ HD K Z V u o ∧ V a = none ∧ ¬ inS s a
  ln : σ.length = ρ.length
section
variable {α β γ δ : Type} {K : PySem.W.Frag} {Z : Zn} {E : XK} {Rl : Hp → β → α → Prop} {s s' : S} {V H V' H' : Hp} {σ : L2.St} {ρ : Slots}
theorem Ans.later {r : R α} {Q : β → Hp → Prop} (x : Nx s s' V H V' H') (h : Ans K Z E Rl r s V H Q) : Ans K Z E Rl r s' V' H' Q := by
  induction r with
  | ok d s2 => exact fun v V2 H2 n w q => h v V2 H2 (x.trans n) w q
  | ex e s2 => exact fun cls dd V2 H2 n w q => h cls dd V2 H2 (x.trans n) w q
  | un => exact h
  | dr t k ih => exact fun i h0 h1 => ih i (h i h0 h1)
theorem Ans.mono {r : R α} {Q Q' : β → Hp → Prop} (h : Ans K Z E Rl r s V H Q) (k : ∀ v H', Q v H' → Q' v H') : Ans K Z E Rl r s V H Q' := by
  induction r with
  | ok d s2 => exact fun v V2 H2 n w q => k _ _ (h v V2 H2 n w q)
  | ex e s2 => exact h
  | un => exact h
  | dr t k ih => exact fun i h0 h1 => ih i (h i h0 h1)
theorem Ans.pure {Q : β → Hp → Prop} {v : β} {d : α} (w : Wd Z.T V H s) (q : Rl V v d) (h : Ans K Z E Rl (.ok d s) s V H Q) : Q v H := h v V H (Nx.refl _ _ _) w q
theorem Rep.later (p : Rep K Z V H σ ρ s) (x : Nx s s' V H V' H') : Rep K Z V' H' σ ρ s' := by
  refine ⟨fun i d e => ?_, fun i ds e => ?_, p.ln⟩
  · obtain ⟨v, h1, h2⟩ := p.fz i d e
    exact ⟨v, h1, Dv.mono x.g _ _ h2⟩
  · obtain ⟨a, vs, h1, h2, h3, h4, h5⟩ := p.ow i ds e
    exact ⟨a, vs, h1, x.h a _ h2 h3.nt h5, h3.mono x.g, x.not h4 h2 h3.nt, by rw [inS_of x.a]; exact h5⟩
/-- first r, then k: what the first asks -/
theorem Ans.bind {Rl2 : Hp → δ → γ → Prop} {r : R α} {k : α → S → R γ} {Q : δ → Hp → Prop} {Q1 : β → Hp → Prop} (h : Ans K Z E Rl2 (r.bind k) s V H Q)
    (c : ∀ d s' v V' H', Nx s s' V H V' H' → Wd Z.T V' H' s' → Rl V' v d → Ans K Z E Rl2 (k d s') s' V' H' Q → Q1 v H') : Ans K Z E Rl r s V H Q1 := by
  induction r with
  | ok d s2 => exact fun v V2 H2 n w q => c d s2 v V2 H2 n w q (Ans.later n h)
  | ex e s2 => exact h
  | un => exact h
  | dr t k ih => exact fun i h0 h1 => ih i (h i h0 h1)
end
/-- t computes f: an expression, arguments, a test -/
def Cmp (K : PySem.W.Frag) (Z : Zn) (E : XK) (t : TE) (f : Slots → S → R D) : Prop := ∀ V H σ ρ s Q, Wd Z.T V H s → Rep K Z V H σ ρ s → Ans K Z E (Dv K Z) (f ρ s) s V H Q → t σ H Q
def CmpA (K : PySem.W.Frag) (Z : Zn) (E : XK) (t : TA) (f : Slots → S → R (List D)) : Prop := ∀ V H σ ρ s Q, Wd Z.T V H s → Rep K Z V H σ ρ s → Ans K Z E (DvA K Z) (f ρ s) s V H Q → t σ H Q
def CmpT (K : PySem.W.Frag) (Z : Zn) (E : XK) (t : TT) (f : Slots → S → R Bool) : Prop := ∀ V H σ ρ s Q, Wd Z.T V H s → Rep K Z V H σ ρ s → Ans K Z E (fun _ b c => b = c) (f ρ s) s V H Q → t σ H Q
/-- an operation on two values, on one, a call on values -/
def Cmp2 (K : PySem.W.Frag) (Z : Zn) (E : XK) (r : R2) (op : D → D → S → R D) : Prop := ∀ V H s x y dx dy Q, Wd Z.T V H s → Dv K Z V x dx → Dv K Z V y dy → Ans K Z E (Dv K Z) (op dx dy s) s V H Q → r x y H Q
def Cmp1 (K : PySem.W.Frag) (Z : Zn) (E : XK) (r : V → Hp → VK → Prop) (op : D → S → R D) : Prop := ∀ V H s x dx Q, Wd Z.T V H s → Dv K Z V x dx → Ans K Z E (Dv K Z) (op dx s) s V H Q → r x H Q
def CmpC (K : PySem.W.Frag) (Z : Zn) (E : XK) (r : List V → Hp → VK → Prop) (op : List D → S → R D) : Prop := ∀ V H s xs ds Q, Wd Z.T V H s → DvA K Z V xs ds → Ans K Z E (Dv K Z) (op ds s) s V H Q → r xs H Q
end Pp

set_option maxHeartbeats 1000000
/-! Pp1: expressions that compute. -/
namespace Pp
open PySem PySem.Spec PyProof.Rows L2 Pg Pf LamX
def fits (n : Nat) : Bool := decide (n ≤ 100000)
theorem fits_le {n : Nat} (h : fits n = true) : n ≤ sizeLine := Nat.le_trans (of_decide_eq_true h) (by decide)
theorem fits_lt {n : Nat} (h : fits n = true) : n < sizeLine := Nat.lt_of_le_of_lt (of_decide_eq_true h) (by decide)
/-- e computes f by the reading t -/
structure PP (X : Cx) (Z : Zn) (E : XK) (e : Expr) (t : TE) (f : Slots → S → R D) : Prop where
  pe : PE X e t
  cm : Cmp X.K Z E t f
structure PPA (X : Cx) (Z : Zn) (E : XK) (es : List Expr) (t : TA) (f : Slots → S → R (List D)) : Prop where
  pe : PA X es t
  cm : CmpA X.K Z E t f
structure PPT (X : Cx) (Z : Zn) (E : XK) (e : Expr) (t : TT) (f : Slots → S → R Bool) : Prop where
  pe : PT X e t
  cm : CmpT X.K Z E t f
structure PPW (X : Cx) (Z : Zn) (E : XK) (e : Expr) (t : TT) (f : Slots → S → R Bool) : Prop where
  pe : PW X e t
  cm : CmpT X.K Z E t f
/-! ### what is computed -/
def vr (i : Nat) (ρ : Slots) (s : S) : R D := match ρ[i]? with
  | some (.fz d) => .ok d s
  | _ => .un
def kst (d : D) (_ : Slots) (s : S) : R D := .ok d s
def b2 (op : D → D → S → R D) (f g : Slots → S → R D) (ρ : Slots) (s : S) : R D := (f ρ s).bind fun x s => (g ρ s).bind fun y s => op x y s
def b1 (op : D → S → R D) (f : Slots → S → R D) (ρ : Slots) (s : S) : R D := (f ρ s).bind fun x s => op x s
def bC (op : List D → S → R D) (f : Slots → S → R (List D)) (ρ : Slots) (s : S) : R D := (f ρ s).bind fun x s => op x s
def bl' (x : D) (s : S) : R Bool := match x with
  | .bl b => .ok b s
  | _ => .un
def tst (f : Slots → S → R D) (ρ : Slots) (s : S) : R Bool := (f ρ s).bind bl'
def bnd (f g : Slots → S → R Bool) (ρ : Slots) (s : S) : R Bool := (f ρ s).bind fun b s => if b = true then g ρ s else .ok false s
def bor (f g : Slots → S → R Bool) (ρ : Slots) (s : S) : R Bool := (f ρ s).bind fun b s => if b = true then .ok true s else g ρ s
def bnt (f : Slots → S → R Bool) (ρ : Slots) (s : S) : R Bool := (f ρ s).bind fun b s => .ok (!b) s
def dnd (f g : Slots → S → R D) (ρ : Slots) (s : S) : R D := (f ρ s).bind fun x s => (bl' x s).bind fun b s => if b = true then g ρ s else .ok (.bl false) s
def dor (f g : Slots → S → R D) (ρ : Slots) (s : S) : R D := (f ρ s).bind fun x s => (bl' x s).bind fun b s => if b = true then .ok (.bl true) s else g ρ s
def iff (c : Slots → S → R Bool) (f g : Slots → S → R D) (ρ : Slots) (s : S) : R D := (c ρ s).bind fun b s => if b = true then f ρ s else g ρ s
def nilA (_ : Slots) (s : S) : R (List D) := .ok [] s
def cnsA (f : Slots → S → R D) (g : Slots → S → R (List D)) (ρ : Slots) (s : S) : R (List D) := (f ρ s).bind fun x s => (g ρ s).bind fun xs s => .ok (x :: xs) s
def tupF (ds : List D) (s : S) : R D := if fits ds.length = true then .ok (.tup ds) s else .un
def lstF (ds : List D) (s : S) : R D := if fits ds.length = true then .ok (.lst ds) s else .un
section
variable {K : PySem.W.Frag} {Z : Zn} {E : XK} {ta tb tc : TE} {u1 u2 : TT} {ua : TA} {f g h : Slots → S → R D} {p q : Slots → S → R Bool} {fa : Slots → S → R (List D)} {r r' : R2} {op op' : D → D → S → R D}
theorem c_var (i : Nat) : Cmp K Z E (tVar i) (vr i) := by
  intro V H σ ρ s Q w p a
  unfold vr at a
  split at a
  · rename_i d e
    obtain ⟨v, h1, h2⟩ := p.fz i d e
    exact ⟨v, h1, Ans.pure w h2 a⟩
  · exact a.elim
theorem c_c {v : V} {d : D} (h : ∀ G, Dv K Z G v d) : Cmp K Z E (tC v) (kst d) := fun V H σ ρ s Q w p a => Ans.pure w (h V) a
theorem c_op (ho : Cmp2 K Z E r op) (ha : Cmp K Z E ta f) (hb : Cmp K Z E tb g) : Cmp K Z E (tOp r ta tb) (b2 op f g) := fun V H σ ρ s Q w p a =>
  ha V H σ ρ s _ w p (Ans.bind a fun d s1 v V1 H1 n1 w1 r1 a1 => hb V1 H1 σ ρ s1 _ w1 (p.later n1) (Ans.bind a1 fun d2 s2 v2 V2 H2 n2 w2 r2 a2 => ho V2 H2 s2 v v2 d d2 Q w2 (Dv.mono n2.g _ _ r1) r2 a2))
theorem c_un {r : V → Hp → VK → Prop} {op : D → S → R D} (ho : Cmp1 K Z E r op) (ha : Cmp K Z E ta f) : Cmp K Z E (tUn r ta) (b1 op f) := fun V H σ ρ s Q w p a =>
  ha V H σ ρ s _ w p (Ans.bind a fun d s1 v V1 H1 n1 w1 r1 a1 => ho V1 H1 s1 v d Q w1 r1 a1)
theorem c_call {r : List V → Hp → VK → Prop} {op : List D → S → R D} (ho : CmpC K Z E r op) (ha : CmpA K Z E ua fa) : Cmp K Z E (tCB r ua) (bC op fa) := fun V H σ ρ s Q w p a =>
  ha V H σ ρ s _ w p (Ans.bind a fun d s1 v V1 H1 n1 w1 r1 a1 => ho V1 H1 s1 v d Q w1 r1 a1)
/-- a chain of two comparisons -/
def chn (op op' : D → D → S → R D) (f g h : Slots → S → R D) (ρ : Slots) (s : S) : R D := (f ρ s).bind fun x s => (g ρ s).bind fun y s => (op x y s).bind fun z s => (bl' z s).bind fun b s => if b = true then (h ρ s).bind fun u s => op' y u s else .ok (.bl false) s
theorem c_bl {v : V} {V H : Hp} {d : D} {s : S} {β γ : Type} {Rl : Hp → β → γ → Prop} {k : Bool → S → R γ} {Q : β → Hp → Prop} (rd : Dv K Z V v d) (a : Ans K Z E Rl ((bl' d s).bind k) s V H Q) : ∃ b, v = .bl b ∧ Ans K Z E Rl (k b s) s V H Q := by
  cases rd with
  | bl b => exact ⟨b, rfl, a⟩
  | _ => exact a.elim
theorem c_chain (ho : Cmp2 K Z E r op) (ho' : Cmp2 K Z E r' op') (ha : Cmp K Z E ta f) (hb : Cmp K Z E tb g) (hc : Cmp K Z E tc h) : Cmp K Z E (tChain r r' ta tb tc) (chn op op' f g h) := fun V H σ ρ s Q w p a =>
  ha V H σ ρ s _ w p (Ans.bind a fun d s1 v V1 H1 n1 w1 r1 a1 => hb V1 H1 σ ρ s1 _ w1 (p.later n1) (Ans.bind a1 fun d2 s2 v2 V2 H2 n2 w2 r2 a2 => ho V2 H2 s2 v v2 d d2 _ w2 (Dv.mono n2.g _ _ r1) r2
    (Ans.bind a2 fun d3 s3 v3 V3 H3 n3 w3 r3 a3 => by
      obtain ⟨b, e, a4⟩ := c_bl r3 a3
      refine ⟨b, e, ?_⟩
      by_cases hb : b = true
      · rw [if_pos hb] at a4 ⊢
        exact hc V3 H3 σ ρ s3 _ w3 (((p.later n1).later n2).later n3) (Ans.bind a4 fun d4 s4 v4 V4 H4 n4 w4 r4 a5 => ho' V4 H4 s4 v2 v4 d2 d4 Q w4 (Dv.mono n4.g _ _ (Dv.mono n3.g _ _ r2)) r4 a5)
      · rw [if_neg hb] at a4 ⊢
        exact Ans.pure w3 (.bl false) a4)))
/-- a value that is a bool, as a test -/
theorem c_tB (ha : Cmp K Z E ta f) : CmpT K Z E (tB ta) (tst f) := fun V H σ ρ s Q w p a =>
  ha V H σ ρ s _ w p (Ans.bind a fun d s1 v V1 H1 n1 w1 r1 a1 => by
    cases r1 with
    | bl b => exact ⟨b, rfl, Ans.pure w1 rfl a1⟩
    | _ => exact a1.elim)
theorem c_tT (ha : Cmp K Z E ta f) : CmpT K Z E (tTest ta) (tst f) := c_tB ha
theorem c_and (ha : CmpT K Z E u1 p) (hb : CmpT K Z E u2 q) : CmpT K Z E (tAnd u1 u2) (bnd p q) := fun V H σ ρ s Q w pp a =>
  ha V H σ ρ s _ w pp (Ans.bind a fun d s1 v V1 H1 n1 w1 r1 a1 => by
    subst r1
    by_cases hb' : v = true
    · rw [if_pos hb'] at a1 ⊢
      exact hb V1 H1 σ ρ s1 _ w1 (pp.later n1) a1
    · rw [if_neg hb'] at a1 ⊢
      exact Ans.pure w1 rfl a1)
theorem c_or (ha : CmpT K Z E u1 p) (hb : CmpT K Z E u2 q) : CmpT K Z E (tOr u1 u2) (bor p q) := fun V H σ ρ s Q w pp a =>
  ha V H σ ρ s _ w pp (Ans.bind a fun d s1 v V1 H1 n1 w1 r1 a1 => by
    subst r1
    by_cases hb' : v = true
    · rw [if_pos hb'] at a1 ⊢
      exact Ans.pure w1 rfl a1
    · rw [if_neg hb'] at a1 ⊢
      exact hb V1 H1 σ ρ s1 _ w1 (pp.later n1) a1)
theorem c_not (ha : CmpT K Z E u1 p) : CmpT K Z E (tNot u1) (bnt p) := fun V H σ ρ s Q w pp a =>
  ha V H σ ρ s _ w pp (Ans.bind a fun d s1 v V1 H1 n1 w1 r1 a1 => by
    subst r1
    exact Ans.pure w1 rfl a1)
theorem c_andV (ha : Cmp K Z E ta f) (hb : Cmp K Z E tb g) : Cmp K Z E (tAndV ta tb) (dnd f g) := fun V H σ ρ s Q w p a =>
  ha V H σ ρ s _ w p (Ans.bind a fun d s1 v V1 H1 n1 w1 r1 a1 => by
    obtain ⟨b, e, a4⟩ := c_bl r1 a1
    refine ⟨b, e, ?_⟩
    by_cases hb' : b = true
    · rw [if_pos hb'] at a4 ⊢
      exact hb V1 H1 σ ρ s1 _ w1 (p.later n1) a4
    · rw [if_neg hb'] at a4 ⊢
      exact Ans.pure w1 (.bl false) a4)
theorem c_orV (ha : Cmp K Z E ta f) (hb : Cmp K Z E tb g) : Cmp K Z E (tOrV ta tb) (dor f g) := fun V H σ ρ s Q w p a =>
  ha V H σ ρ s _ w p (Ans.bind a fun d s1 v V1 H1 n1 w1 r1 a1 => by
    obtain ⟨b, e, a4⟩ := c_bl r1 a1
    refine ⟨b, e, ?_⟩
    by_cases hb' : b = true
    · rw [if_pos hb'] at a4 ⊢
      exact Ans.pure w1 (.bl true) a4
    · rw [if_neg hb'] at a4 ⊢
      exact hb V1 H1 σ ρ s1 _ w1 (p.later n1) a4)
def ntV (f : Slots → S → R D) (ρ : Slots) (s : S) : R D := (f ρ s).bind fun x s => (bl' x s).bind fun b s => .ok (.bl (!b)) s
theorem c_notV (ha : Cmp K Z E ta f) : Cmp K Z E (tNotV ta) (ntV f) := fun V H σ ρ s Q w p a =>
  ha V H σ ρ s _ w p (Ans.bind a fun d s1 v V1 H1 n1 w1 r1 a1 => by
    obtain ⟨b, e, a4⟩ := c_bl r1 a1
    exact ⟨b, e, Ans.pure w1 (.bl _) a4⟩)
theorem c_if (hc : CmpT K Z E u1 p) (ha : Cmp K Z E ta f) (hb : Cmp K Z E tb g) : Cmp K Z E (tIf u1 ta tb) (iff p f g) := fun V H σ ρ s Q w pp a =>
  hc V H σ ρ s _ w pp (Ans.bind a fun d s1 v V1 H1 n1 w1 r1 a1 => by
    subst r1
    by_cases hb' : v = true
    · rw [if_pos hb'] at a1 ⊢
      exact ha V1 H1 σ ρ s1 _ w1 (pp.later n1) a1
    · rw [if_neg hb'] at a1 ⊢
      exact hb V1 H1 σ ρ s1 _ w1 (pp.later n1) a1)
theorem c_nil : CmpA K Z E tNil nilA := fun V H σ ρ s Q w p a => Ans.pure w .nil a
theorem c_cons (ha : Cmp K Z E ta f) (hb : CmpA K Z E ua fa) : CmpA K Z E (tCons ta ua) (cnsA f fa) := fun V H σ ρ s Q w p a =>
  ha V H σ ρ s _ w p (Ans.bind a fun d s1 v V1 H1 n1 w1 r1 a1 => hb V1 H1 σ ρ s1 _ w1 (p.later n1) (Ans.bind a1 fun d2 s2 v2 V2 H2 n2 w2 r2 a2 => Ans.pure w2 (.cons (Dv.mono n2.g _ _ r1) r2) a2))
/-- a new tuple, a new list -/
theorem new_tup {V H : Hp} {s : S} {vs : List L2.V} {ds : List D} {Q : VK} (w : Wd Z.T V H s) (h : DvA K Z V vs ds) (a : Ans K Z E (Dv K Z) (.ok (.tup ds) s) s V H Q) : ∀ p, H p = none → Q (.ref p) (upd H p (.tup vs)) := fun p hp =>
  a (.ref p) (upd V p (.tup vs)) _ (Nx.new w hp) (w.new hp fun _ z => by cases z) (.tup (.inl (.inl upd_same)) (DvA.mono (Same.new (w.sv.free hp)) _ _ h))
theorem new_lst {V H : Hp} {s : S} {vs : List L2.V} {ds : List D} {Q : VK} (w : Wd Z.T V H s) (h : DvA K Z V vs ds) (a : Ans K Z E (Dv K Z) (.ok (.lst ds) s) s V H Q) : ∀ p, H p = none → Q (.ref p) (upd H p (.lst vs)) := fun p hp =>
  a (.ref p) (upd V p (.lst vs)) _ (Nx.new w hp) (w.new hp fun _ z => by cases z) (.lst upd_same (DvA.mono (Same.new (w.sv.free hp)) _ _ h))
theorem c_tup (ha : CmpA K Z E ua fa) : Cmp K Z E (tTup ua) (bC tupF fa) := fun V H σ ρ s Q w p a =>
  ha V H σ ρ s _ w p (Ans.bind a fun d s1 v V1 H1 n1 w1 r1 a1 => by
    unfold tupF at a1
    split at a1
    · rename_i e
      exact ⟨by rw [r1.len]; exact fits_le e, new_tup w1 r1 a1⟩
    · exact a1.elim)
theorem c_lst (ha : CmpA K Z E ua fa) : Cmp K Z E (tLst ua) (bC lstF fa) := fun V H σ ρ s Q w p a =>
  ha V H σ ρ s _ w p (Ans.bind a fun d s1 v V1 H1 n1 w1 r1 a1 => by
    unfold lstF at a1
    split at a1
    · rename_i e
      exact ⟨by rw [r1.len]; exact fits_le e, new_lst w1 r1 a1⟩
    · exact a1.elim)
end
/-! ### operations on data -/
def intF (k : Int → Int → D) (x y : D) (s : S) : R D := match x, y with
  | .int i, .int j => .ok (k i j) s
  | _, _ => .un
section
variable {K : PySem.W.Frag} {Z : Zn} {E : XK}
theorem c2_int {g : Int → Int → V} {k : Int → Int → D} (hk : ∀ i j G, Dv K Z G (g i j) (k i j)) : Cmp2 K Z E (rI0 g) (intF k) := fun V H s x y dx dy Q w rx ry a => by
  cases rx with
  | int i =>
    cases ry with
    | int j => exact ⟨i, j, rfl, rfl, Ans.pure w (hk i j V) a⟩
    | _ => exact a.elim
  | _ => exact a.elim
theorem c2_lt : Cmp2 K Z E (rI0 fun i j => .bl (decide (i < j))) (intF fun i j => .bl (decide (i < j))) := c2_int fun _ _ _ => .bl _
theorem c2_le : Cmp2 K Z E (rI0 fun i j => .bl (decide (i ≤ j))) (intF fun i j => .bl (decide (i ≤ j))) := c2_int fun _ _ _ => .bl _
theorem c2_gt : Cmp2 K Z E (rI0 fun i j => .bl (decide (j < i))) (intF fun i j => .bl (decide (j < i))) := c2_int fun _ _ _ => .bl _
theorem c2_ge : Cmp2 K Z E (rI0 fun i j => .bl (decide (j ≤ i))) (intF fun i j => .bl (decide (j ≤ i))) := c2_int fun _ _ _ => .bl _
theorem c2_sub : Cmp2 K Z E (rI0 fun i j => .int (i - j)) (intF fun i j => .int (i - j)) := c2_int fun _ _ _ => .int _
/-- + : ints, tuples, lists -/
def rPlus (K : PySem.W.Frag) : R2 := fun x y H Q => (rI0 fun i j => .int (i + j)) x y H Q ∨ (rCatA K x y H Q ∨ rCat x y H Q)
theorem op_plus {X : Cx} : OpR X (binaryOp .Add) (rPlus X.K) := op_add.or (op_catA.or op_cat)
def plusF (x y : D) (s : S) : R D := match x, y with
  | .int i, .int j => .ok (.int (i + j)) s
  | .tup xs, .tup ys => if fits (xs.length + ys.length) = true then .ok (.tup (xs ++ ys)) s else .un
  | .lst xs, .lst ys => if fits (xs.length + ys.length) = true then .ok (.lst (xs ++ ys)) s else .un
  | _, _ => .un
theorem c2_plus : Cmp2 K Z E (rPlus K) plusF := fun V H s x y dx dy Q w rx ry a => by
  cases rx with
  | int i =>
    cases ry with
    | int j => exact .inl ⟨i, j, rfl, rfl, Ans.pure w (.int _) a⟩
    | _ => exact a.elim
  | @tup ax vx xs hx rx =>
    cases ry with
    | @tup ay vy ys hy ry =>
      change Ans K Z E (Dv K Z) (if _ then _ else _) s V H Q at a
      split at a
      case isTrue e =>
        have lx := rx.len
        have ly := ry.len
        refine .inr (.inl ⟨ax, ay, vx, vy, rfl, rfl, Evl.ex_t w.sv hx, Evl.ex_t w.sv hy, by rw [lx, ly]; exact fits_le e, fun z => ?_, fun _ z => ?_, fun _ _ => new_tup w (rx.app ry) a⟩)
        · subst z
          cases rx
          exact Ans.pure w (.tup hy ry) a
        · subst z
          cases ry
          rw [List.append_nil] at a
          exact Ans.pure w (.tup hx rx) a
      case isFalse => exact a.elim
    | _ => exact a.elim
  | @lst ax vx xs hx rx =>
    cases ry with
    | @lst ay vy ys hy ry =>
      change Ans K Z E (Dv K Z) (if _ then _ else _) s V H Q at a
      split at a
      case isTrue e => exact .inr (.inr ⟨ax, ay, vx, vy, rfl, rfl, w.sv _ _ hx, w.sv _ _ hy, by rw [rx.len, ry.len]; exact fits_le e, new_lst w (rx.app ry) a⟩)
      case isFalse => exact a.elim
    | _ => exact a.elim
  | _ => exact a.elim
/-- * : a small int times an int -/
def mulF (x y : D) (s : S) : R D := match x, y with
  | .int i, .int j => if (decide (-(2 ^ 64) < i) && decide (i < 2 ^ 64)) || (decide (-(2 ^ 64) < j) && decide (j < 2 ^ 64)) then .ok (.int (i * j)) s else .un
  | _, _ => .un
theorem c2_mul : Cmp2 K Z E (rI CMul fun i j => .int (i * j)) mulF := fun V H s x y dx dy Q w rx ry a => by
  cases rx with
  | int i =>
    cases ry with
    | int j =>
      change Ans K Z E (Dv K Z) (if _ then _ else _) s V H Q at a
      split at a
      case isTrue e =>
        refine ⟨i, j, rfl, rfl, ?_, Ans.pure w (.int _) a⟩
        rcases Bool.or_eq_true_iff.mp e with e | e
        · have := Bool.and_eq_true_iff.mp e
          exact .inl ⟨of_decide_eq_true this.1, of_decide_eq_true this.2⟩
        · have := Bool.and_eq_true_iff.mp e
          exact .inr ⟨of_decide_eq_true this.1, of_decide_eq_true this.2⟩
      case isFalse => exact a.elim
    | _ => exact a.elim
  | _ => exact a.elim
def modF (x y : D) (s : S) : R D := match x, y with
  | .int i, .int j => if 0 < j then .ok (.int (i % j)) s else .un
  | _, _ => .un
theorem c2_mod : Cmp2 K Z E (rI (fun _ j => 0 < j) fun i j => .int (i % j)) modF := fun V H s x y dx dy Q w rx ry a => by
  cases rx with
  | int i =>
    cases ry with
    | int j =>
      change Ans K Z E (Dv K Z) (if _ then _ else _) s V H Q at a
      split at a
      case isTrue e => exact ⟨i, j, rfl, rfl, e, Ans.pure w (.int _) a⟩
      case isFalse => exact a.elim
    | _ => exact a.elim
  | _ => exact a.elim
def isN : D → Bool
  | .non => true
  | _ => false
theorem isN_of {G : Hp} {v : V} {d : D} (h : Dv K Z G v d) : decide (v = .non) = isN d := by
  cases h <;> rfl
def isNF (x y : D) (s : S) : R D := match y with
  | .non => .ok (.bl (isN x)) s
  | _ => .un
def notNF (x y : D) (s : S) : R D := match y with
  | .non => .ok (.bl (!isN x)) s
  | _ => .un
theorem c2_isN : Cmp2 K Z E (fun x y H Q => y = .non ∧ Q (.bl (decide (x = .non))) H) isNF := fun V H s x y dx dy Q w rx ry a => by
  cases ry with
  | non => exact ⟨rfl, by rw [isN_of rx]; exact Ans.pure w (.bl _) a⟩
  | _ => exact a.elim
theorem c2_notN : Cmp2 K Z E (fun x y H Q => y = .non ∧ Q (.bl (!decide (x = .non))) H) notNF := fun V H s x y dx dy Q w rx ry a => by
  cases ry with
  | non => exact ⟨rfl, by rw [isN_of rx]; exact Ans.pure w (.bl _) a⟩
  | _ => exact a.elim
/-- an item of a tuple, of a list -/
def ixF (x y : D) (s : S) : R D := match x, y with
  | .tup ds, .int i => match atI ds i with
    | some d => .ok d s
    | none => .un
  | .lst ds, .int i => match atI ds i with
    | some d => .ok d s
    | none => .un
  | _, _ => .un
theorem DvA.atI {G : Hp} {vs : List V} {ds : List D} {i : Int} {d : D} (h : DvA K Z G vs ds) (e : L2.atI ds i = some d) : ∃ v, L2.atI vs i = some v ∧ Dv K Z G v d := by
  unfold L2.atI at e ⊢
  rw [h.len]
  cases n : ixN ds.length i with
  | none =>
    rw [n] at e
    cases e
  | some j =>
    rw [n] at e
    exact h.at (i := j) e
theorem c2_ix : Cmp2 K Z E (rIx K) ixF := fun V H s x y dx dy Q w rx ry a => by
  cases rx with
  | @tup ax vx xs hx rx =>
    cases ry with
    | int i =>
      replace a : Ans K Z E (Dv K Z) (match L2.atI xs i with | some d => R.ok d s | none => .un) s V H Q := a
      cases e : L2.atI xs i with
      | some d =>
        rw [e] at a
        obtain ⟨v, h1, h2⟩ := DvA.atI rx e
        exact .inr (.inl ⟨ax, vx, i, v, rfl, rfl, Evl.ex_t w.sv hx, h1, Ans.pure w h2 a⟩)
      | none =>
        rw [e] at a
        exact a.elim
    | _ => exact a.elim
  | @lst ax vx xs hx rx =>
    cases ry with
    | int i =>
      replace a : Ans K Z E (Dv K Z) (match L2.atI xs i with | some d => R.ok d s | none => .un) s V H Q := a
      cases e : L2.atI xs i with
      | some d =>
        rw [e] at a
        obtain ⟨v, h1, h2⟩ := DvA.atI rx e
        exact .inl ⟨ax, vx, i, v, rfl, rfl, SqL.of (w.sv _ _ hx), h1, Ans.pure w h2 a⟩
      | none =>
        rw [e] at a
        exact a.elim
    | _ => exact a.elim
  | _ => exact a.elim
/-- len of a tuple, of a list -/
def lenF (xs : List D) (s : S) : R D := match xs with
  | [.tup ds] => .ok (.int ds.length) s
  | [.lst ds] => .ok (.int ds.length) s
  | _ => .un
theorem cC_len : CmpC K Z E (fun xs H Q => ∃ p ys, xs = [.ref p] ∧ (SqL K H p ys ∨ SqT K H p ys) ∧ Q (.int ys.length) H) lenF := fun V H s xs ds Q w r a => by
  match ds, r, a with
  | [.tup es], .cons (.tup h hs) .nil, a => exact ⟨_, _, rfl, .inr (Evl.ex_t w.sv h), by rw [hs.len]; exact Ans.pure w (.int _) a⟩
  | [.lst es], .cons (.lst h hs) .nil, a => exact ⟨_, _, rfl, .inl (SqL.of (w.sv _ _ h)), by rw [hs.len]; exact Ans.pure w (.int _) a⟩
  | [], _, a => exact a.elim
  | .non :: _, _, a | .bl _ :: _, _, a | .int _ :: _, _, a | .str _ :: _, _, a | .obj _ _ :: _, _, a | .adr _ :: _, _, a | .emp :: _, _, a => exact a.elim
  | .tup _ :: _ :: _, _, a | .lst _ :: _ :: _, _, a => exact a.elim
/-- tuple(..), list(..) of a tuple, of a list -/
def tupleF (xs : List D) (s : S) : R D := match xs with
  | [.tup ds] => .ok (.tup ds) s
  | [.lst ds] => .ok (.tup ds) s
  | _ => .un
theorem cC_tuple : CmpC K Z E (fun xs H Q => ∃ p ys, xs = [.ref p] ∧ ((SqL K H p ys ∧ ∀ l, H l = none → Q (.ref l) (upd H l (.tup ys))) ∨ (SqT K H p ys ∧ Q (.ref p) H))) tupleF := fun V H s xs ds Q w r a => by
  match ds, r, a with
  | [.tup es], .cons (.tup h hs) .nil, a => exact ⟨_, _, rfl, .inr ⟨Evl.ex_t w.sv h, Ans.pure w (.tup h hs) a⟩⟩
  | [.lst es], .cons (.lst h hs) .nil, a => exact ⟨_, _, rfl, .inl ⟨SqL.of (w.sv _ _ h), new_tup w hs a⟩⟩
  | [], _, a => exact a.elim
  | .non :: _, _, a | .bl _ :: _, _, a | .int _ :: _, _, a | .str _ :: _, _, a | .obj _ _ :: _, _, a | .adr _ :: _, _, a | .emp :: _, _, a => exact a.elim
  | .tup _ :: _ :: _, _, a | .lst _ :: _ :: _, _, a => exact a.elim
def listF (xs : List D) (s : S) : R D := match xs with
  | [.tup ds] => .ok (.lst ds) s
  | [.lst ds] => .ok (.lst ds) s
  | _ => .un
theorem cC_list : CmpC K Z E (fun xs H Q => ∃ p ys, xs = [.ref p] ∧ (SqL K H p ys ∨ SqT K H p ys) ∧ ∀ l, H l = none → Q (.ref l) (upd H l (.lst ys))) listF := fun V H s xs ds Q w r a => by
  match ds, r, a with
  | [.tup es], .cons (.tup h hs) .nil, a => exact ⟨_, _, rfl, .inr (Evl.ex_t w.sv h), new_lst w hs a⟩
  | [.lst es], .cons (.lst h hs) .nil, a => exact ⟨_, _, rfl, .inl (SqL.of (w.sv _ _ h)), new_lst w hs a⟩
  | [], _, a => exact a.elim
  | .non :: _, _, a | .bl _ :: _, _, a | .int _ :: _, _, a | .str _ :: _, _, a | .obj _ _ :: _, _, a | .adr _ :: _, _, a | .emp :: _, _, a => exact a.elim
  | .tup _ :: _ :: _, _, a | .lst _ :: _ :: _, _, a => exact a.elim
end
end Pp

set_option maxHeartbeats 1000000
/-! Pp2: statements that compute. -/
namespace Pp
open PySem PySem.Spec PyProof.Rows L2 Pg Pf LamX
inductive Fl where
  | nx (ρ : Slots) | rt (d : D) | bk (ρ : Slots) | ct (ρ : Slots)
/-- within a body: its entry (s0, G0, H0), where one stands -/
structure RepF (K : PySem.W.Frag) (Z : Zn) (s0 : S) (G0 H0 G H : Hp) (σ : L2.St) (ρ : Slots) (s : S) : Prop where
  nx : Nx s0 s G0 H0 G H
  w : Wd Z.T G H s
  p : Rep K Z G H σ ρ s
  new : ∀ (i : Nat) (o : OD) (a : Addr), ρ[i]? = some (.ow o) → σ[i]? = some (some (.ref a)) → Fre H0 a
  dis : ∀ (i j : Nat) (o u : OD) (a : Addr), i ≠ j → ρ[i]? = some (.ow o) → ρ[j]? = some (.ow u) → σ[i]? = some (some (.ref a)) → σ[j]? = some (some (.ref a)) → False
  len : σ.length = ρ.length
def AnsS (K : PySem.W.Frag) (Z : Zn) (E : XK) (r : R Fl) (s0 : S) (G0 H0 G : Hp) (D : Ends) : Prop := match r with
  | .ok (.nx ρ) s => ∀ σ G' H', Same G G' → RepF K Z s0 G0 H0 G' H' σ ρ s → D.nx σ H'
  | .ok (.bk ρ) s => ∀ σ G' H', Same G G' → RepF K Z s0 G0 H0 G' H' σ ρ s → D.bk σ H'
  | .ok (.ct ρ) s => ∀ σ G' H', Same G G' → RepF K Z s0 G0 H0 G' H' σ ρ s → D.ct σ H'
  | .ok (.rt d) s => ∀ v V' H', Nx s0 s G0 H0 V' H' → Wd Z.T V' H' s → Dv K Z V' v d → D.rt v H'
  | .ex e s => ∀ cls dd V' H', Nx s0 s G0 H0 V' H' → Wd Z.T V' H' s → ExR K Z V' cls dd e → E cls dd H'
  | .un => False
  | .dr t k => ∀ i, 0 ≤ i → i < t → AnsS K Z E (k i) s0 G0 H0 G D
def CmpS (K : PySem.W.Frag) (Z : Zn) (E : XK) (t : TS) (F : Slots → S → R Fl) : Prop := ∀ s0 G0 H0 G H σ ρ s D, RepF K Z s0 G0 H0 G H σ ρ s → AnsS K Z E (F ρ s) s0 G0 H0 G D → t D σ H
def Sl.all : Sl → Sl
  | .ow o => match o.d with
    | some d => .fz d
    | none => .no
  | x => x
def allS (ρ : Slots) : Slots := ρ.map Sl.all
theorem allS_fz {ρ : Slots} {i : Nat} {d : D} (h : (allS ρ)[i]? = some (.fz d)) : ρ[i]? = some (.fz d) ∨ ∃ o, ρ[i]? = some (.ow o) ∧ o.d = some d := by
  unfold allS at h
  rw [List.getElem?_map] at h
  cases e : ρ[i]? with
  | none =>
    rw [e] at h
    cases h
  | some x =>
    rw [e] at h
    cases x with
    | no => cases h
    | fz y =>
      cases h
      exact .inl rfl
    | ow o =>
      have h' : Sl.all (.ow o) = .fz d := Option.some.inj h
      unfold Sl.all at h'
      simp only at h'
      split at h'
      case h_1 d' y =>
        cases h'
        exact .inr ⟨o, rfl, y⟩
      case h_2 => cases h'
theorem allS_ow {ρ : Slots} {i : Nat} {o : OD} (h : (allS ρ)[i]? = some (.ow o)) : False := by
  unfold allS at h
  rw [List.getElem?_map] at h
  cases e : ρ[i]? with
  | none =>
    rw [e] at h
    cases h
  | some x =>
    rw [e] at h
    cases x with
    | no => cases h
    | fz _ => cases h
    | ow o2 =>
      have h' : Sl.all (.ow o2) = .ow o := Option.some.inj h
      unfold Sl.all at h'
      simp only at h'
      split at h' <;> cases h'
open Classical in
/-- what a body may know of the heap: all but the state's objects, tables, and what the entry did not know -/
noncomputable def vw (G0 H0 H : Hp) (s : S) : Hp := fun p => if inS s p then none else if G0 p = none ∧ ¬ Fre H0 p then none else match H p with
  | some (.tbl _) => none
  | o => o
section
variable {K : PySem.W.Frag} {Z : Zn} {E : XK} {s0 s s' : S} {G0 H0 G H G' H' V' : Hp} {σ : L2.St} {ρ : Slots}
theorem vw_some {p : Addr} {o : HO} (h : vw G0 H0 H s p = some o) : H p = some o ∧ (∀ ps, o ≠ .tbl ps) ∧ ¬ inS s p ∧ (G0 p ≠ none ∨ Fre H0 p) := by
  unfold vw at h
  split at h
  · cases h
  · rename_i i
    split at h
    · cases h
    · rename_i c
      have hc : G0 p ≠ none ∨ Fre H0 p := by
        by_cases g : G0 p = none
        · exact .inr (Classical.byContradiction fun z => c ⟨g, z⟩)
        · exact .inl g
      split at h
      · cases h
      · rename_i n
        exact ⟨h, fun ps z => n ps (z ▸ h), i, hc⟩
theorem vw_of {p : Addr} {o : HO} (h : H p = some o) (n : ∀ ps, o ≠ .tbl ps) (i : ¬ inS s p) (c : G0 p ≠ none ∨ Fre H0 p) : vw G0 H0 H s p = some o := by
  unfold vw
  rw [if_neg i, if_neg fun z => c.elim (fun y => y z.1) z.2, h]
  cases o <;> first | rfl | exact absurd rfl (n _)
theorem RepF.sub (r : RepF K Z s0 G0 H0 G H σ ρ s) : Same G (vw G0 H0 H s) := fun p o e => vw_of (r.w.sv _ _ e) (fun ps z => r.w.nt p ps (z ▸ e)) (fun i => by
  have := r.w.mr.inV i
  rw [e] at this
  cases this) (r.nx.n p (by rw [e]; simp))
theorem RepF.hW (r : RepF K Z s0 G0 H0 G H σ ρ s) : Wd Z.T (vw G0 H0 H s) H s := by
  refine ⟨fun p o e => (vw_some e).1, fun p ps e => (vw_some e).2.1 ps rfl, r.w.tb, ?_⟩
  have m := r.w.mr
  cases s with
  | none => exact trivial
  | some k =>
    obtain ⟨a1, a2, a3, a4, a5, a6, a7⟩ := m
    have no : ∀ p, inS (some k) p → vw G0 H0 H (some k) p = none := fun p i => by
      unfold vw
      rw [if_pos i]
    exact ⟨a1, a2, a3, no _ (.inl rfl), no _ (.inr (.inl rfl)), no _ (.inr (.inr rfl)), a7⟩
theorem RepF.hP (r : RepF K Z s0 G0 H0 G H σ ρ s) : Rep K Z (vw G0 H0 H s) H σ (allS ρ) s := by
  refine ⟨fun i d e0 => ?_, fun i o e0 => (allS_ow e0).elim, by unfold allS; rw [List.length_map]; exact r.p.ln⟩
  rcases allS_fz e0 with e | ⟨o, e, ed⟩
  · obtain ⟨v, h1, h2⟩ := r.p.fz i d e
    exact ⟨v, h1, Dv.mono r.sub _ _ h2⟩
  · obtain ⟨a, u, h1, h2, h3, h4, h5⟩ := r.p.ow i o e
    exact ⟨.ref a, h1, (h3.mono r.sub).dv (vw_of h2 h3.nt h5 (.inr (r.new i o a e h1))) ed⟩
/-- the entry's view of what comes out of the view -/
theorem RepF.out (r : RepF K Z s0 G0 H0 G H σ ρ s) (n : Nx s s' (vw G0 H0 H s) H V' H') : Nx s0 s' G0 H0 V' H' := by
  refine ⟨n.a.trans r.nx.a, (r.nx.g.trans r.sub).trans n.g, fun p o e nt i => n.h p o (r.nx.h p o e nt i) nt (by rw [inS_of r.nx.a]; exact i), fun p e => ?_, fun p e => r.nx.k p (n.k p e)⟩
  rcases n.n p e with z | z
  · cases y : vw G0 H0 H s p with
    | none => exact absurd y z
    | some o => exact (vw_some y).2.2.2
  · exact .inr (r.nx.k p z)
theorem MR.of {V V2 H2 : Hp} (h : MR V H2 s') (a : adr s' = adr s) (m : MR G H s) : MR G H2 s' := by
  cases s' with
  | none => exact trivial
  | some k' =>
    cases s with
    | none => cases a
    | some k =>
      injection a with a
      injection a with a1 a
      injection a with a2 a3
      obtain ⟨b1, b2, b3, b4, b5, b6, b7⟩ := h
      obtain ⟨_, _, _, c4, c5, c6, _⟩ := m
      exact ⟨b1, b2, b3, a1 ▸ c4, a2 ▸ c5, a3 ▸ c6, b7⟩
/-- what is known for good stays as it was -/
theorem RepF.back (r : RepF K Z s0 G0 H0 G H σ ρ s) (n : Nx s s' (vw G0 H0 H s) H V' H') (w : Wd Z.T V' H' s') : RepF K Z s0 G0 H0 G H' σ ρ s' := by
  refine ⟨⟨n.a.trans r.nx.a, r.nx.g, fun p o e nt i => n.h p o (r.nx.h p o e nt i) nt (by rw [inS_of r.nx.a]; exact i), r.nx.n, fun p e => r.nx.k p (n.k p e)⟩,
    ⟨(r.sub.trans n.g).trans w.sv, r.w.nt, w.tb, MR.of (V2 := V') w.mr n.a r.w.mr⟩, ⟨r.p.fz, fun i o e => ?_, r.p.ln⟩, r.new, r.dis, r.len⟩
  obtain ⟨a, u, h1, h2, h3, h4, h5⟩ := r.p.ow i o e
  exact ⟨a, u, h1, n.h a u h2 h3.nt h5, h3, h4, by rw [inS_of n.a]; exact h5⟩
/-- all that is one's own is known for good from now on -/
theorem RepF.froz (r : RepF K Z s0 G0 H0 G H σ ρ s) (n : Nx s s' (vw G0 H0 H s) H V' H') (w : Wd Z.T V' H' s') : RepF K Z s0 G0 H0 V' H' σ (allS ρ) s' :=
  ⟨r.out n, w, r.hP.later n, fun i o a e _ => (allS_ow e).elim, fun i j o u a _ e _ _ _ => (allS_ow e).elim, by unfold allS; rw [List.length_map]; exact r.len⟩
/-- a frozen expression -/
theorem RepF.on (r : RepF K Z s0 G0 H0 G H σ ρ s) (n : Nx s s' G H G' H') (w : Wd Z.T G' H' s') : RepF K Z s0 G0 H0 G' H' σ ρ s' :=
  ⟨r.nx.trans n, w, r.p.later n, r.new, r.dis, r.len⟩
/-- a slot gets a value -/
theorem RepF.set (r : RepF K Z s0 G0 H0 G H σ ρ s) {i : Nat} {v : V} {d : D} (h : Dv K Z G v d) : RepF K Z s0 G0 H0 G H (σ.set i (some v)) (ρ.set i (.fz d)) s := by
  have old : ∀ {j : Nat} {x : Sl}, (ρ.set i (.fz d))[j]? = some x → (j = i ∧ x = .fz d ∧ i < ρ.length) ∨ (j ≠ i ∧ ρ[j]? = some x) := fun {j x} e => by
    by_cases z : j = i
    · subst z
      by_cases l : j < ρ.length
      · rw [List.getElem?_set_self l] at e
        exact .inl ⟨rfl, (Option.some.inj e).symm, l⟩
      · rw [List.getElem?_eq_none (by rw [List.length_set]; omega)] at e
        cases e
    · rw [List.getElem?_set_ne (Ne.symm z)] at e
      exact .inr ⟨z, e⟩
  have σo : ∀ {j : Nat}, j ≠ i → (σ.set i (some v))[j]? = σ[j]? := fun {j} z => List.getElem?_set_ne (Ne.symm z)
  refine ⟨r.nx, r.w, ⟨fun j x e => ?_, fun j o e => ?_, by rw [List.length_set, List.length_set]; exact r.len⟩, fun j o a e1 e2 => ?_, fun j k o u a n e1 e2 e3 e4 => ?_, by rw [List.length_set, List.length_set]; exact r.len⟩
  · rcases old e with ⟨rfl, y, l⟩ | ⟨z, e⟩
    · cases y
      exact ⟨v, List.getElem?_set_self (by rw [r.len]; exact l), h⟩
    · rw [σo z]
      exact r.p.fz j x e
  · rcases old e with ⟨rfl, y, l⟩ | ⟨z, e⟩
    · cases y
    · rw [σo z]
      exact r.p.ow j o e
  · rcases old e1 with ⟨rfl, y, l⟩ | ⟨z, e⟩
    · cases y
    · rw [σo z] at e2
      exact r.new j o a e e2
  · rcases old e1 with ⟨rfl, y, l⟩ | ⟨z, e⟩
    · cases y
    · rcases old e2 with ⟨rfl, y, l⟩ | ⟨z2, f⟩
      · cases y
      · rw [σo z] at e3
        rw [σo z2] at e4
        exact r.dis j k o u a n e f e3 e4
/-- a slot gets a new object of its own -/
theorem RepF.own (r : RepF K Z s0 G0 H0 G H σ ρ s) {i : Nat} {a : Addr} {u : HO} {o : OD} (h : H a = some u) (hd : HD K Z G u o) (g : G a = none) (is : ¬ inS s a) (n0 : Fre H0 a) (fr : ∀ (j : Nat) (o : OD), ρ[j]? = some (.ow o) → σ[j]? = some (some (.ref a)) → j = i) :
    RepF K Z s0 G0 H0 G H (σ.set i (some (.ref a))) (ρ.set i (.ow o)) s := by
  have old : ∀ {j : Nat} {x : Sl}, (ρ.set i (.ow o))[j]? = some x → (j = i ∧ x = .ow o ∧ i < ρ.length) ∨ (j ≠ i ∧ ρ[j]? = some x) := fun {j x} e => by
    by_cases z : j = i
    · subst z
      by_cases l : j < ρ.length
      · rw [List.getElem?_set_self l] at e
        exact .inl ⟨rfl, (Option.some.inj e).symm, l⟩
      · rw [List.getElem?_eq_none (by rw [List.length_set]; omega)] at e
        cases e
    · rw [List.getElem?_set_ne (Ne.symm z)] at e
      exact .inr ⟨z, e⟩
  have σo : ∀ {j : Nat}, j ≠ i → (σ.set i (some (.ref a)))[j]? = σ[j]? := fun {j} z => List.getElem?_set_ne (Ne.symm z)
  have σs : i < ρ.length → (σ.set i (some (V.ref a)))[i]? = some (some (.ref a)) := fun l => List.getElem?_set_self (by rw [r.len]; exact l)
  refine ⟨r.nx, r.w, ⟨fun j x e => ?_, fun j x e => ?_, by rw [List.length_set, List.length_set]; exact r.len⟩, fun j x b e1 e2 => ?_, fun j k x y b n e1 e2 e3 e4 => ?_, by rw [List.length_set, List.length_set]; exact r.len⟩
  · rcases old e with ⟨rfl, y, l⟩ | ⟨z, e⟩
    · cases y
    · rw [σo z]
      exact r.p.fz j x e
  · rcases old e with ⟨rfl, y, l⟩ | ⟨z, e⟩
    · cases y
      exact ⟨a, u, σs l, h, hd, g, is⟩
    · rw [σo z]
      exact r.p.ow j x e
  · rcases old e1 with ⟨rfl, y, l⟩ | ⟨z, e⟩
    · rw [σs l] at e2
      cases e2
      exact n0
    · rw [σo z] at e2
      exact r.new j x b e e2
  · rcases old e1 with ⟨rfl, p, l⟩ | ⟨z, e⟩
    · rcases old e2 with ⟨rfl, p, l2⟩ | ⟨z2, f⟩
      · exact n rfl
      · rw [σs l] at e3
        cases e3
        rw [σo z2] at e4
        exact z2 (fr k y f e4)
    · rcases old e2 with ⟨rfl, p, l⟩ | ⟨z2, f⟩
      · rw [σs l] at e4
        cases e4
        rw [σo z] at e3
        exact z (fr j x e e3)
      · rw [σo z] at e3
        rw [σo z2] at e4
        exact r.dis j k x y b n e f e3 e4
/-- a new object is no slot's own -/
theorem RepF.fr (r : RepF K Z s0 G0 H0 G H σ ρ s) {a : Addr} (h : Fre H a) {j : Nat} {o : OD} (e : ρ[j]? = some (.ow o)) (f : σ[j]? = some (some (.ref a))) : False := by
  obtain ⟨b, u, h1, h2, h3, _⟩ := r.p.ow j o e
  rw [h1] at f
  cases f
  exact fre_ne h2 h3.nt h rfl
/-- an own object changes -/
theorem RepF.mut (r : RepF K Z s0 G0 H0 G H σ ρ s) {i : Nat} {a : Addr} {u' : HO} {o o' : OD} (e : ρ[i]? = some (.ow o)) (f : σ[i]? = some (some (.ref a))) (hd : HD K Z G u' o') : RepF K Z s0 G0 H0 G (upd H a u') σ (ρ.set i (.ow o')) s := by
  obtain ⟨b, u, h1, h2, h3, h4, h5⟩ := r.p.ow i o e
  rw [f] at h1
  cases h1
  have l : i < ρ.length := (List.getElem?_eq_some_iff.mp e).1
  have n0 := r.new i o a e f
  have old : ∀ {j : Nat} {x : Sl}, (ρ.set i (.ow o'))[j]? = some x → (j = i ∧ x = .ow o') ∨ (j ≠ i ∧ ρ[j]? = some x) := fun {j x} e => by
    by_cases z : j = i
    · subst z
      rw [List.getElem?_set_self l] at e
      exact .inl ⟨rfl, (Option.some.inj e).symm⟩
    · rw [List.getElem?_set_ne (Ne.symm z)] at e
      exact .inr ⟨z, e⟩
  refine ⟨r.nx.mut n0, r.w.mut h2 h4 h5 h3.nt h3.ne, ⟨fun j x ej => ?_, fun j x ej => ?_, by rw [List.length_set]; exact r.len⟩, fun j x b e1 e2 => ?_, fun j k x y b n e1 e2 e3 e4 => ?_, by rw [List.length_set]; exact r.len⟩
  · rcases old ej with ⟨rfl, y⟩ | ⟨z, ej⟩
    · cases y
    · exact r.p.fz j x ej
  · rcases old ej with ⟨rfl, y⟩ | ⟨z, ej⟩
    · cases y
      exact ⟨a, u', f, upd_same, hd, h4, h5⟩
    · obtain ⟨b, v, q1, q2, q3, q4, q5⟩ := r.p.ow j x ej
      refine ⟨b, v, q1, ?_, q3, q4, q5⟩
      rw [upd_ne fun y => r.dis j i x o a z ej e (by rw [← y]; exact q1) f]
      exact q2
  · rcases old e1 with ⟨rfl, y⟩ | ⟨z, ej⟩
    · exact r.new j o b e e2
    · exact r.new j x b ej e2
  · rcases old e1 with ⟨rfl, p⟩ | ⟨z, ej⟩
    · rcases old e2 with ⟨rfl, p⟩ | ⟨z2, ek⟩
      · exact n rfl
      · exact r.dis j k o y b n e ek e3 e4
    · rcases old e2 with ⟨rfl, p⟩ | ⟨z2, ek⟩
      · exact r.dis j k x o b n ej e e3 e4
      · exact r.dis j k x y b n ej ek e3 e4
theorem AnsS.later {r : R Fl} {D : Ends} {G1 : Hp} (e : Same G G1) (h : AnsS K Z E r s0 G0 H0 G D) : AnsS K Z E r s0 G0 H0 G1 D := by
  induction r with
  | ok fl s =>
    cases fl with
    | nx ρ => exact fun σ G' H' q => h σ G' H' (e.trans q)
    | bk ρ => exact fun σ G' H' q => h σ G' H' (e.trans q)
    | ct ρ => exact fun σ G' H' q => h σ G' H' (e.trans q)
    | rt d => exact h
  | ex e s => exact h
  | un => exact h
  | dr t k ih => exact fun i h0 h1 => ih i (h i h0 h1)
/-- a statement, then k -/
theorem AnsS.bindS {r : R Fl} {k : Fl → S → R Fl} {D D' : Ends} (h : AnsS K Z E (r.bind k) s0 G0 H0 G D) (c : ∀ fl s, AnsS K Z E (k fl s) s0 G0 H0 G D → AnsS K Z E (.ok fl s) s0 G0 H0 G D') : AnsS K Z E r s0 G0 H0 G D' := by
  induction r with
  | ok fl s => exact c fl s h
  | ex e s => exact h
  | un => exact h
  | dr t k ih => exact fun i h0 h1 => ih i (h i h0 h1)
/-- an expression seen with all that is one's own, then k -/
theorem AnsS.bindH {α β : Type} {Rl : Hp → β → α → Prop} {r : R α} {k : α → S → R Fl} {D : Ends} {Q1 : β → Hp → Prop} (F : RepF K Z s0 G0 H0 G H σ ρ s) (h : AnsS K Z E (r.bind k) s0 G0 H0 G D)
    (c : ∀ d s' v V' H', Nx s s' (vw G0 H0 H s) H V' H' → Wd Z.T V' H' s' → Rl V' v d → AnsS K Z E (k d s') s0 G0 H0 G D → Q1 v H') : Ans K Z E Rl r s (vw G0 H0 H s) H Q1 := by
  induction r with
  | ok d s2 => exact fun v V2 H2 n w q => c d s2 v V2 H2 n w q h
  | ex e s2 => exact fun cls dd V2 H2 n w q => h cls dd V2 H2 (F.out n) w q
  | un => exact h
  | dr t k ih => exact fun i h0 h1 => ih i (h i h0 h1)
/-- .. with what is known for good -/
theorem AnsS.bindF {α β : Type} {Rl : Hp → β → α → Prop} {r : R α} {k : α → S → R Fl} {D : Ends} {Q1 : β → Hp → Prop} (F : RepF K Z s0 G0 H0 G H σ ρ s) (h : AnsS K Z E (r.bind k) s0 G0 H0 G D)
    (c : ∀ d s' v V' H', Nx s s' G H V' H' → Wd Z.T V' H' s' → Rl V' v d → AnsS K Z E (k d s') s0 G0 H0 V' D → Q1 v H') : Ans K Z E Rl r s G H Q1 := by
  induction r with
  | ok d s2 => exact fun v V2 H2 n w q => c d s2 v V2 H2 n w q (AnsS.later n.g h)
  | ex e s2 => exact fun cls dd V2 H2 n w q => h cls dd V2 H2 (F.nx.trans n) w q
  | un => exact h
  | dr t k ih => exact fun i h0 h1 => ih i (h i h0 h1)
end
/-! ### what statements compute -/
def nxS (ρ : Slots) (s : S) : R Fl := .ok (.nx ρ) s
def seqS (F1 F2 : Slots → S → R Fl) (ρ : Slots) (s : S) : R Fl := (F1 ρ s).bind fun fl s => match fl with
  | .nx ρ => F2 ρ s
  | x => .ok x s
def ifS (p : Slots → S → R Bool) (F1 F2 : Slots → S → R Fl) (ρ : Slots) (s : S) : R Fl := (p (allS ρ) s).bind fun b s => if b = true then F1 ρ s else F2 ρ s
def retS (f : Slots → S → R D) (ρ : Slots) (s : S) : R Fl := (f (allS ρ) s).bind fun d s => .ok (.rt d) s
def dropS (f : Slots → S → R D) (ρ : Slots) (s : S) : R Fl := (f (allS ρ) s).bind fun _ s => .ok (.nx ρ) s
/-- x = e : e reads nothing of one's own -/
def setF (i : Nat) (f : Slots → S → R D) (ρ : Slots) (s : S) : R Fl := (f ρ s).bind fun d s => .ok (.nx (ρ.set i (.fz d))) s
/-- .. it may; all that is one's own is given up -/
def setA (i : Nat) (f : Slots → S → R D) (ρ : Slots) (s : S) : R Fl := (f (allS ρ) s).bind fun d s => .ok (.nx ((allS ρ).set i (.fz d))) s
/-- .. it may; the value is a number and the like -/
def isSc : D → Bool
  | .non | .bl _ | .int _ | .str _ => true
  | _ => false
def setN (i : Nat) (f : Slots → S → R D) (ρ : Slots) (s : S) : R Fl := (f (allS ρ) s).bind fun d s => if isSc d = true then .ok (.nx (ρ.set i (.fz d))) s else .un
/-- x = [..] : a list of one's own -/
def setL (i : Nat) (f : Slots → S → R (List D)) (ρ : Slots) (s : S) : R Fl := (f ρ s).bind fun ds s => if fits ds.length = true then .ok (.nx (ρ.set i (.ow (.ls ds)))) s else .un
/-- x.append(e) -/
def appS (i : Nat) (f : Slots → S → R D) (ρ : Slots) (s : S) : R Fl := match ρ[i]? with
  | some (.ow (.ls ds)) => (f ρ s).bind fun d s => if fits (ds.length + 1) = true then .ok (.nx (ρ.set i (.ow (.ls (ds ++ [d]))))) s else .un
  | _ => .un
def brkS (ρ : Slots) (s : S) : R Fl := .ok (.bk ρ) s
def cntS (ρ : Slots) (s : S) : R Fl := .ok (.ct ρ) s
section
variable {K : PySem.W.Frag} {Z : Zn} {E : XK} {t u : TS} {F1 F2 : Slots → S → R Fl} {te : TE} {f : Slots → S → R D} {tt : TT} {p : Slots → S → R Bool} {ua : TA} {fa : Slots → S → R (List D)}
theorem cs_next : CmpS K Z E tNext nxS := fun s0 G0 H0 G H σ ρ s D r a => a σ G H (Same.refl _) r
theorem cs_break : CmpS K Z E tBreak brkS := fun s0 G0 H0 G H σ ρ s D r a => a σ G H (Same.refl _) r
theorem cs_cont : CmpS K Z E tCont cntS := fun s0 G0 H0 G H σ ρ s D r a => a σ G H (Same.refl _) r
theorem cs_seq (h1 : CmpS K Z E t F1) (h2 : CmpS K Z E u F2) : CmpS K Z E (tSeq t u) (seqS F1 F2) := fun s0 G0 H0 G H σ ρ s D r a => by
  refine h1 s0 G0 H0 G H σ ρ s _ r (AnsS.bindS a fun fl s1 a => ?_)
  cases fl with
  | nx ρ1 => exact fun σ1 G1 H1 q r1 => h2 s0 G0 H0 G1 H1 σ1 ρ1 s1 D r1 (AnsS.later q a)
  | bk ρ1 => exact a
  | ct ρ1 => exact a
  | rt d => exact a
theorem cs_if (hc : CmpT K Z E tt p) (h1 : CmpS K Z E t F1) (h2 : CmpS K Z E u F2) : CmpS K Z E (tIfS tt t u) (ifS p F1 F2) := fun s0 G0 H0 G H σ ρ s D r a =>
  hc _ H σ (allS ρ) s _ r.hW r.hP (AnsS.bindH r a fun b s1 c V1 H1 n1 w1 e a1 => by
    subst e
    by_cases hb : c = true
    · rw [if_pos hb] at a1 ⊢
      exact h1 s0 G0 H0 G H1 σ ρ s1 D (r.back n1 w1) a1
    · rw [if_neg hb] at a1 ⊢
      exact h2 s0 G0 H0 G H1 σ ρ s1 D (r.back n1 w1) a1)
theorem cs_ret (h : Cmp K Z E te f) : CmpS K Z E (tRet te) (retS f) := fun s0 G0 H0 G H σ ρ s D r a =>
  h _ H σ (allS ρ) s _ r.hW r.hP (AnsS.bindH r a fun d s1 v V1 H1 n1 w1 e a1 => a1 v V1 H1 (r.out n1) w1 e)
theorem cs_drop (h : Cmp K Z E te f) : CmpS K Z E (tDrop te) (dropS f) := fun s0 G0 H0 G H σ ρ s D r a =>
  h _ H σ (allS ρ) s _ r.hW r.hP (AnsS.bindH r a fun d s1 v V1 H1 n1 w1 e a1 => a1 σ G H1 (Same.refl _) (r.back n1 w1))
theorem cs_setF (i : Nat) (h : Cmp K Z E te f) : CmpS K Z E (tAsg te (gName i)) (setF i f) := fun s0 G0 H0 G H σ ρ s D r a =>
  h G H σ ρ s _ r.w r.p (AnsS.bindF r a fun d s1 v V1 H1 n1 w1 e a1 => a1 _ V1 H1 (Same.refl _) ((r.on n1 w1).set e))
theorem cs_setA (i : Nat) (h : Cmp K Z E te f) : CmpS K Z E (tAsg te (gName i)) (setA i f) := fun s0 G0 H0 G H σ ρ s D r a =>
  h _ H σ (allS ρ) s _ r.hW r.hP (AnsS.bindH r a fun d s1 v V1 H1 n1 w1 e a1 => a1 _ V1 H1 (r.sub.trans n1.g) ((r.froz n1 w1).set e))
theorem sc_dv {G G' : Hp} {v : V} {d : D} (h : Dv K Z G v d) (e : isSc d = true) : Dv K Z G' v d := by
  cases h with
  | non => exact .non
  | bl b => exact .bl b
  | int i => exact .int i
  | str x => exact .str x
  | _ => cases e
theorem cs_setN (i : Nat) (h : Cmp K Z E te f) : CmpS K Z E (tAsg te (gName i)) (setN i f) := fun s0 G0 H0 G H σ ρ s D r a =>
  h _ H σ (allS ρ) s _ r.hW r.hP (AnsS.bindH r a fun d s1 v V1 H1 n1 w1 e a1 => by
    by_cases z : isSc d = true
    · rw [if_pos z] at a1
      exact a1 _ G H1 (Same.refl _) ((r.back n1 w1).set (sc_dv e z))
    · rw [if_neg z] at a1
      exact a1.elim)
/-- a list display -/
theorem cs_setL (i : Nat) (h : CmpA K Z E ua fa) : CmpS K Z E (tAsg (tLst ua) (gName i)) (setL i fa) := fun s0 G0 H0 G H σ ρ s D r a =>
  h G H σ ρ s _ r.w r.p (AnsS.bindF r a fun ds s1 vs V1 H1 n1 w1 e a1 => by
    by_cases z : fits ds.length = true
    · rw [if_pos z] at a1
      refine ⟨by rw [e.len]; exact fits_le z, fun q hq => ?_⟩
      have r1 := r.on n1 w1
      have is : ¬ inS s1 q := fun y => w1.mr.inH y hq
      have r2 := r1.on (Nx.up (o := .lst vs) hq) (w1.up hq)
      exact a1 _ V1 _ (Same.refl _) (r2.own upd_same (.ls e) (w1.sv.free hq) is (r1.nx.k q (.inl hq)) fun j o ej ef => (r1.fr (.inl hq) ej ef).elim)
    · rw [if_neg z] at a1
      exact a1.elim)
theorem cs_app (i : Nat) (h : Cmp K Z E te f) : CmpS K Z E (tDrop (tBM K "list" rAppend (tVar i) (tCons te tNil))) (appS i f) := fun s0 G0 H0 G H σ ρ s D r a => by
  unfold appS at a
  match e : ρ[i]?, a with
  | some (.ow (.ls ds)), a =>
    obtain ⟨b, u, h1, h2, h3, h4, h5⟩ := r.p.ow i _ e
    cases h3 with
    | @ls vs _ hs =>
      refine ⟨.ref b, h1, .inl ⟨rfl, _, SqL.of h2⟩, ?_⟩
      refine h G H σ ρ s _ r.w r.p (AnsS.bindF r a fun d s1 v V1 H1 n1 w1 q a1 => ?_)
      by_cases z : fits (ds.length + 1) = true
      · rw [if_pos z] at a1
        have r1 := r.on n1 w1
        have hb := n1.h b _ h2 (fun ps z => by cases z) h5
        refine ⟨b, vs, v, rfl, rfl, hb, ?_, ?_⟩
        · rw [hs.len]
          have := fits_lt z
          omega
        · exact a1 _ V1 _ (Same.refl _) (r1.mut e h1 (.ls ((DvA.mono n1.g _ _ hs).snoc q)))
      · rw [if_neg z] at a1
        exact a1.elim
  | none, a => exact a.elim
  | some .no, a => exact a.elim
  | some (.fz d), a => exact a.elim
  | some (.ow (.is c ns ds)), a => exact a.elim
/-- code that is never come to -/
theorem cs_never : CmpS K Z E tNever (fun _ _ => .un) := fun s0 G0 H0 G H σ ρ s D r a => a
end
end Pp

set_option maxHeartbeats 1000000
/-! Pp3: targets, loops, comprehensions. -/
namespace Pp
open PySem PySem.Spec PyProof.Rows L2 Pg Pf LamX
/-! ### targets -/
def CmpG (t : TG) (g : D → Slots → Option Slots) (is : List Nat) (K : PySem.W.Frag) (Z : Zn) : Prop := ∀ (P : L2.St → Slots → Prop) (V H : Hp), Same V H → (∀ σ ρ i v d, i ∈ is → P σ ρ → Dv K Z V v d → P (σ.set i (some v)) (ρ.set i (.fz d))) →
  ∀ σ ρ v d Q, P σ ρ → Dv K Z V v d → (match g d ρ with
    | some ρ' => ∀ σ', P σ' ρ' → Q σ' H
    | none => False) → t v σ H Q
def CmpGs (t : TGs) (g : List D → Slots → Option Slots) (is : List Nat) (K : PySem.W.Frag) (Z : Zn) : Prop := ∀ (P : L2.St → Slots → Prop) (V H : Hp), Same V H → (∀ σ ρ i v d, i ∈ is → P σ ρ → Dv K Z V v d → P (σ.set i (some v)) (ρ.set i (.fz d))) →
  ∀ σ ρ vs ds Q, P σ ρ → DvA K Z V vs ds → (match g ds ρ with
    | some ρ' => ∀ σ', P σ' ρ' → Q σ' H
    | none => False) → t vs σ H Q
def gN (i : Nat) (d : D) (ρ : Slots) : Option Slots := some (ρ.set i (.fz d))
def gT (n : Nat) (g : List D → Slots → Option Slots) (d : D) (ρ : Slots) : Option Slots := match d with
  | .tup ds => if ds.length = n then g ds ρ else none
  | _ => none
def gs0 (ds : List D) (ρ : Slots) : Option Slots := match ds with
  | [] => some ρ
  | _ => none
def gsC (g : D → Slots → Option Slots) (gs : List D → Slots → Option Slots) (ds : List D) (ρ : Slots) : Option Slots := match ds with
  | d :: ds => (g d ρ).bind (gs ds)
  | [] => none
section
variable {K : PySem.W.Frag} {Z : Zn} {t : TG} {ts : TGs} {g : D → Slots → Option Slots} {gs : List D → Slots → Option Slots} {is js : List Nat}
theorem cg_name (i : Nat) : CmpG (gName i) (gN i) [i] K Z := fun P V H sv st σ ρ v d Q p r h => h _ (st σ ρ i v d (by simp) p r)
theorem cg_tup {n : Nat} (h : CmpGs ts gs is K Z) : CmpG (gTup K n ts) (gT n gs) is K Z := fun P V H sv st σ ρ v d Q p r a => by
  cases r with
  | @tup b vs ds hx hs =>
    unfold gT at a
    by_cases e : ds.length = n
    · simp only [if_pos e] at a
      exact ⟨b, vs, rfl, Evl.ex_t sv hx, hs.len.trans e, h P V H sv st σ ρ vs ds Q p hs a⟩
    · simp only [if_neg e] at a
  | _ => exact a.elim
theorem cg_nil : CmpGs gNil gs0 [] K Z := fun P V H sv st σ ρ vs ds Q p r a => by
  cases r with
  | nil => exact ⟨rfl, a σ p⟩
  | cons _ _ => exact a.elim
theorem cg_cons (h : CmpG t g is K Z) (h2 : CmpGs ts gs js K Z) : CmpGs (gCons t ts) (gsC g gs) (is ++ js) K Z := fun P V H sv st σ ρ vs ds Q p r a => by
  cases r with
  | nil => exact a.elim
  | @cons v d vs ds hv hs =>
    refine ⟨v, vs, rfl, h P V H sv (fun σ ρ i v d e => st σ ρ i v d (List.mem_append_left _ e)) σ ρ v d _ p hv ?_⟩
    cases e : g d ρ with
    | none =>
      simp only [gsC, e] at a
      exact a
    | some ρ1 => exact fun σ1 p1 => h2 P V H sv (fun σ ρ i v d e => st σ ρ i v d (List.mem_append_right _ e)) σ1 ρ1 vs ds Q p1 hs (by simp only [gsC, e] at a; exact a)
end
/-! ### what is walked -/
structure ItR (K : PySem.W.Frag) (Z : Zn) (V : Hp) (J : It) (ds : List D) : Prop where
  go : ∀ i V1 H1, Same V V1 → Same V1 H1 → i < ds.length → J.go i H1
  stop : ∀ V1 H1, Same V V1 → Same V1 H1 → J.stop ds.length H1
  yld : ∀ i V1 H1 x H2, Same V V1 → Same V1 H1 → i < ds.length → J.yld i H1 x H2 → ∃ d, ds[i]? = some d ∧ ((H2 = H1 ∧ Dv K Z V1 x d) ∨ ∃ T xs, x = .ref T ∧ H1 T = none ∧ H2 = upd H1 T (.tup xs) ∧ Dv K Z (upd V1 T (.tup xs)) x d)
def CmpI (K : PySem.W.Frag) (Z : Zn) (E : XK) (t : TI) (f : Slots → S → R (List D)) : Prop := ∀ V H σ ρ s Q, Wd Z.T V H s → Rep K Z V H σ ρ s → Ans K Z E (ItR K Z) (f ρ s) s V H Q → t σ H Q
/-- a list or a tuple -/
def iSeq (K : PySem.W.Frag) (tl : TE) : TI := fun σ H R => tl σ H fun x H1 => ∃ a, x = .ref a ∧ (((∃ xs, SqL K H1 a xs) ∧ R (Itl K a) H1) ∨ ((∃ xs, SqT K H1 a xs) ∧ R (Itt K a) H1))
theorem pi_seq {X : Cx} {tg l : Expr} {tl : TE} (hl : PE X l tl) : PI X tg l (iSeq X.K tl) := by
  refine ⟨fun pins s σ H R I h => ?_⟩
  refine thn (hl.run pins s σ H _ I h) fun v s1 ⟨x, H1, I1, r1, q1⟩ => ?_
  obtain ⟨a, e, q1⟩ := q1
  subst e
  cases r1
  rcases q1 with ⟨⟨xs, hq⟩, q⟩ | ⟨⟨xs, hq⟩, q⟩
  · obtain ⟨its, rv, p, hz⟩ := I1.list hq
    refine wpAny_pyIter_list p.isList ?_
    refine ⟨s1.heap.objs.size, [s1.heap.objs.size], _, _, H1, rfl, I1.kept (t' := s1.toks) fun b o e => Heap.get?_push_of_some _ e, turn_list a _, ⟨_, Heap.get?_push_size _ rfl, rfl, rfl⟩, fun b hb => ?_, q⟩
    have e : b = s1.heap.objs.size := by simpa using hb
    subst e
    exact I1.fpOk (Nat.le_refl _) (I1.hok.fresh (Nat.le_refl _))
  · obtain ⟨its, rv, p, hz⟩ := I1.tuple hq
    refine wpAny_pyIter_tuple (show s1.heap.IsTuple a its.toArray from p) ?_
    refine ⟨s1.heap.objs.size, [s1.heap.objs.size], _, _, H1, rfl, I1.kept (t' := s1.toks) fun b o e => Heap.get?_push_of_some _ e, turn_tuple a _, ⟨_, Heap.get?_push_size _ rfl, rfl, rfl⟩, fun b hb => ?_, q⟩
    have e : b = s1.heap.objs.size := by simpa using hb
    subst e
    exact I1.fpOk (Nat.le_refl _) (I1.hok.fresh (Nat.le_refl _))
def itmF (d : D) (s : S) : R (List D) := match d with
  | .lst ds => .ok ds s
  | .tup ds => .ok ds s
  | _ => .un
def seqI (f : Slots → S → R D) (ρ : Slots) (s : S) : R (List D) := (f ρ s).bind itmF
def rngD (lo : Int) (n : Nat) : List D := (List.range n).map fun i => .int (lo + (i : Nat))
def rgB (i : Int) : Bool := decide (-(2 ^ 62) ≤ i) && decide (i < 2 ^ 62)
def rg1F (ds : List D) (s : S) : R (List D) := match ds with
  | [.int j] => if rgB j = true then .ok (rngD 0 j.toNat) s else .un
  | _ => .un
def rg2F (ds : List D) (s : S) : R (List D) := match ds with
  | [.int i, .int j] => if (rgB i && rgB j) = true then .ok (rngD i (j - i).toNat) s else .un
  | _ => .un
def rgI (k : List D → S → R (List D)) (f : Slots → S → R (List D)) (ρ : Slots) (s : S) : R (List D) := (f ρ s).bind k
section
variable {K : PySem.W.Frag} {Z : Zn} {E : XK} {te : TE} {f : Slots → S → R D} {ua : TA} {fa : Slots → S → R (List D)}
theorem itR_list {V : Hp} {a : Addr} {vs : List L2.V} {ds : List D} (h : V a = some (.lst vs)) (hs : DvA K Z V vs ds) : ItR K Z V (Itl K a) ds := by
  refine ⟨fun i V1 H1 e1 e2 l => ?_, fun V1 H1 e1 e2 => ⟨vs, SqL.of (e2 _ _ (e1 _ _ h)), by rw [hs.len]; exact Nat.le_refl _⟩, fun i V1 H1 x H2 e1 e2 l y => ?_⟩
  · have l2 : i < vs.length := by rw [hs.len]; exact l
    exact ⟨vs, vs[i], SqL.of (e2 _ _ (e1 _ _ h)), List.getElem?_eq_getElem l2⟩
  · obtain ⟨rfl, q⟩ := y
    obtain ⟨d, e, r⟩ := hs.at' (q vs (SqL.of (e2 _ _ (e1 _ _ h))))
    exact ⟨d, e, .inl ⟨rfl, Dv.mono e1 _ _ r⟩⟩
theorem itR_tup {V : Hp} {a : Addr} {vs : List L2.V} {ds : List D} (h : SqT K V a vs) (hs : DvA K Z V vs ds) : ItR K Z V (Itt K a) ds := by
  have st : ∀ {V1 H1 : Hp}, Same V V1 → Same V1 H1 → SqT K H1 a vs := fun e1 e2 => Evl.ex_t (e1.trans e2) h
  refine ⟨fun i V1 H1 e1 e2 l => ?_, fun V1 H1 e1 e2 => ⟨vs, st e1 e2, by rw [hs.len]; exact Nat.le_refl _⟩, fun i V1 H1 x H2 e1 e2 l y => ?_⟩
  · have l2 : i < vs.length := by rw [hs.len]; exact l
    exact ⟨vs, vs[i], st e1 e2, List.getElem?_eq_getElem l2⟩
  · obtain ⟨rfl, q⟩ := y
    obtain ⟨d, e, r⟩ := hs.at' (q vs (st e1 e2))
    exact ⟨d, e, .inl ⟨rfl, Dv.mono e1 _ _ r⟩⟩
theorem rngD_len (lo : Int) (n : Nat) : (rngD lo n).length = n := by unfold rngD; rw [List.length_map, List.length_range]
theorem itR_rng {V : Hp} (lo : Int) (n : Nat) : ItR K Z V (Itr lo n) (rngD lo n) := by
  refine ⟨fun i V1 H1 e1 e2 l => by rw [rngD_len] at l; exact l, fun V1 H1 e1 e2 => by rw [rngD_len]; exact Nat.le_refl _, fun i V1 H1 x H2 e1 e2 l y => ?_⟩
  obtain ⟨rfl, rfl⟩ := y
  rw [rngD_len] at l
  refine ⟨.int (lo + (i : Nat)), ?_, .inl ⟨rfl, .int _⟩⟩
  unfold rngD
  rw [List.getElem?_map, List.getElem?_range l]
  rfl
theorem ci_seq (h : Cmp K Z E te f) : CmpI K Z E (iSeq K te) (seqI f) := fun V H σ ρ s Q w p a =>
  h V H σ ρ s _ w p (Ans.bind a fun d s1 v V1 H1 n1 w1 r1 a1 => by
    cases r1 with
    | @lst b vs ds hx hs => exact ⟨b, rfl, .inl ⟨⟨_, SqL.of (w1.sv _ _ hx)⟩, Ans.pure w1 (itR_list hx hs) a1⟩⟩
    | @tup b vs ds hx hs => exact ⟨b, rfl, .inr ⟨⟨_, Evl.ex_t w1.sv hx⟩, Ans.pure w1 (itR_tup hx hs) a1⟩⟩
    | _ => exact a1.elim)
theorem rgB_of {i : Int} (h : rgB i = true) : -(2 ^ 62) ≤ i ∧ i < 2 ^ 62 := by
  have := Bool.and_eq_true_iff.mp h
  exact ⟨of_decide_eq_true this.1, of_decide_eq_true this.2⟩
theorem ci_rng1 (h : CmpA K Z E ua fa) : CmpI K Z E (iRng1 ua) (rgI rg1F fa) := fun V H σ ρ s Q w p a =>
  h V H σ ρ s _ w p (Ans.bind a fun d s1 v V1 H1 n1 w1 r1 a1 => by
    match d, r1, a1 with
    | [.int j], .cons (.int _) .nil, a1 =>
      replace a1 : Ans K Z E (ItR K Z) (if rgB j = true then .ok (rngD 0 j.toNat) s1 else .un) s1 V1 H1 Q := a1
      by_cases e : rgB j = true
      · rw [if_pos e] at a1
        exact ⟨j, rfl, (rgB_of e).1, (rgB_of e).2, Ans.pure w1 (itR_rng 0 j.toNat) a1⟩
      · rw [if_neg e] at a1
        exact a1.elim
    | [], _, a1 => exact a1.elim
    | .non :: _, _, a1 | .bl _ :: _, _, a1 | .str _ :: _, _, a1 | .obj _ _ :: _, _, a1 | .adr _ :: _, _, a1 | .emp :: _, _, a1 | .tup _ :: _, _, a1 | .lst _ :: _, _, a1 => exact a1.elim
    | .int _ :: _ :: _, _, a1 => exact a1.elim)
theorem ci_rng2 (h : CmpA K Z E ua fa) : CmpI K Z E (iRng2 ua) (rgI rg2F fa) := fun V H σ ρ s Q w p a =>
  h V H σ ρ s _ w p (Ans.bind a fun d s1 v V1 H1 n1 w1 r1 a1 => by
    match d, r1, a1 with
    | [.int i, .int j], .cons (.int _) (.cons (.int _) .nil), a1 =>
      replace a1 : Ans K Z E (ItR K Z) (if (rgB i && rgB j) = true then .ok (rngD i (j - i).toNat) s1 else .un) s1 V1 H1 Q := a1
      by_cases e : (rgB i && rgB j) = true
      · rw [if_pos e] at a1
        have e2 := Bool.and_eq_true_iff.mp e
        have b1 := rgB_of e2.1
        have b2 := rgB_of e2.2
        exact ⟨i, j, rfl, ⟨b1.1, b1.2, b2.1, b2.2⟩, Ans.pure w1 (itR_rng i _) a1⟩
      · rw [if_neg e] at a1
        exact a1.elim
    | [], _, a1 => exact a1.elim
    | [.int _], _, a1 => exact a1.elim
    | .int _ :: .int _ :: _ :: _, _, a1 => exact a1.elim
    | .int _ :: .non :: _, _, a1 | .int _ :: .bl _ :: _, _, a1 | .int _ :: .str _ :: _, _, a1 | .int _ :: .obj _ _ :: _, _, a1 | .int _ :: .adr _ :: _, _, a1 | .int _ :: .emp :: _, _, a1 | .int _ :: .tup _ :: _, _, a1 | .int _ :: .lst _ :: _, _, a1 => exact a1.elim
    | .non :: _, _, a1 | .bl _ :: _, _, a1 | .str _ :: _, _, a1 | .obj _ _ :: _, _, a1 | .adr _ :: _, _, a1 | .emp :: _, _, a1 | .tup _ :: _, _, a1 | .lst _ :: _, _, a1 => exact a1.elim)
end
/-! ### for, while -/
def forK (k : Slots → S → R Fl) (fl : Fl) (s : S) : R Fl := match fl with
  | .nx ρ => k ρ s
  | .ct ρ => k ρ s
  | .bk ρ => .ok (.nx ρ) s
  | .rt d => .ok (.rt d) s
def forL (g : D → Slots → Option Slots) (F : Slots → S → R Fl) : List D → Slots → S → R Fl
  | [], ρ, s => .ok (.nx ρ) s
  | d :: ds, ρ, s => match g d ρ with
    | none => .un
    | some ρ1 => (F ρ1 s).bind (forK fun ρ s => forL g F ds ρ s)
def forS (fi : Slots → S → R (List D)) (g : D → Slots → Option Slots) (F : Slots → S → R Fl) (ρ : Slots) (s : S) : R Fl := (fi ρ s).bind fun ds s => forL g F ds ρ s
def frzS (F : Slots → S → R Fl) (ρ : Slots) (s : S) : R Fl := F (allS ρ) s
def whlL (p : Slots → S → R Bool) (F : Slots → S → R Fl) : Nat → Slots → S → R Fl
  | 0, _, _ => .un
  | n + 1, ρ, s => (p (allS ρ) s).bind fun b s => if b = true then (F ρ s).bind (forK fun ρ s => whlL p F n ρ s) else .ok (.nx ρ) s
def asgS (f : Slots → S → R D) (g : D → Slots → Option Slots) (ρ : Slots) (s : S) : R Fl := (f ρ s).bind fun d s => match g d ρ with
  | some ρ => .ok (.nx ρ) s
  | none => .un
section
variable {K : PySem.W.Frag} {Z : Zn} {E : XK} {t : TS} {F : Slots → S → R Fl} {te : TE} {f : Slots → S → R D} {tt : TT} {p : Slots → S → R Bool} {wi : TI} {fi : Slots → S → R (List D)} {tg : TG} {g : D → Slots → Option Slots} {is : List Nat}
/-- first all that is one's own is known for good -/
theorem cs_frz (h : CmpS K Z E t F) : CmpS K Z E t (frzS F) := fun s0 G0 H0 G H σ ρ s D r a =>
  h s0 G0 H0 _ H σ (allS ρ) s D (r.froz (Nx.refl _ _ _) r.hW) (AnsS.later r.sub a)
theorem cs_asg (h : Cmp K Z E te f) (hg : CmpG tg g is K Z) : CmpS K Z E (tAsg te tg) (asgS f g) := fun s0 G0 H0 G H σ ρ s D r a =>
  h G H σ ρ s _ r.w r.p (AnsS.bindF r a fun d s1 v V1 H1 n1 w1 e a1 => by
    refine hg (fun σ ρ => RepF K Z s0 G0 H0 V1 H1 σ ρ s1) V1 H1 w1.sv (fun σ ρ i v d _ q hd => q.set hd) σ ρ v d _ (r.on n1 w1) e ?_
    cases e1 : g d ρ with
    | none =>
      rw [e1] at a1
      exact a1
    | some ρ1 =>
      rw [e1] at a1
      exact fun σ' q => a1 σ' V1 H1 (Same.refl _) q)
theorem cs_for (hi : CmpI K Z E wi fi) (hg : CmpG tg g is K Z) (hb : CmpS K Z E t F) : CmpS K Z E (tFor wi tg t) (forS fi g F) := fun s0 G0 H0 G H σ ρ s D r a => by
  refine hi G H σ ρ s _ r.w r.p (AnsS.bindF r a fun ds s1 J V1 H1 n1 w1 it a1 => ?_)
  refine ⟨fun i m σ H => m = ds.length - i ∧ i ≤ ds.length ∧ ∃ G2 ρ2 s2, RepF K Z s0 G0 H0 G2 H σ ρ2 s2 ∧ Same V1 G2 ∧ AnsS K Z E (forL g F (ds.drop i) ρ2 s2) s0 G0 H0 G2 D, ⟨ds.length, by simp, Nat.zero_le _, V1, ρ, s1, r.on n1 w1, Same.refl _, a1⟩, ?_⟩
  rintro i m σ2 H2 ⟨rfl, hi2, G2, ρ2, s2, r2, e2, a2⟩
  by_cases l : i < ds.length
  · refine .inr ⟨it.go i G2 H2 e2 r2.w.sv l, fun σ3 H3 => ∃ G3 ρ3 s3, RepF K Z s0 G0 H0 G3 H3 σ3 ρ3 s3 ∧ Same V1 G3 ∧ AnsS K Z E (forL g F (ds.drop (i + 1)) ρ3 s3) s0 G0 H0 G3 D, fun σ3 H3 q => ⟨ds.length - (i + 1), by omega, rfl, l, q⟩, fun x H3 y => ?_⟩
    obtain ⟨d, ed, y⟩ := it.yld i G2 H2 x H3 e2 r2.w.sv l y
    have dd : ds.drop i = d :: ds.drop (i + 1) := by
      rw [List.drop_eq_getElem_cons l]
      rw [List.getElem?_eq_getElem l] at ed
      rw [Option.some.inj ed]
    rw [dd] at a2
    have go : ∀ G3, Same G2 G3 → RepF K Z s0 G0 H0 G3 H3 σ2 ρ2 s2 → Dv K Z G3 x d → tg x σ2 H3 fun σ4 H4 => t { D with nx := fun σ3 H3 => ∃ G3 ρ3 s3, RepF K Z s0 G0 H0 G3 H3 σ3 ρ3 s3 ∧ Same V1 G3 ∧ AnsS K Z E (forL g F (ds.drop (i + 1)) ρ3 s3) s0 G0 H0 G3 D, ct := fun σ3 H3 => ∃ G3 ρ3 s3, RepF K Z s0 G0 H0 G3 H3 σ3 ρ3 s3 ∧ Same V1 G3 ∧ AnsS K Z E (forL g F (ds.drop (i + 1)) ρ3 s3) s0 G0 H0 G3 D, bk := D.nx } σ4 H4 := by
      intro G3 e3 r3 hd
      refine hg (fun σ ρ => RepF K Z s0 G0 H0 G3 H3 σ ρ s2) G3 H3 r3.w.sv (fun σ ρ i v d _ q hd => q.set hd) σ2 ρ2 x d _ r3 hd ?_
      have a3 := AnsS.later e3 a2
      unfold forL at a3
      cases eg : g d ρ2 with
      | none =>
        rw [eg] at a3
        exact a3
      | some ρ4 =>
        rw [eg] at a3
        refine fun σ4 r4 => hb s0 G0 H0 G3 H3 σ4 ρ4 s2 _ r4 ?_
        replace a3 : AnsS K Z E ((F ρ4 s2).bind (forK fun ρ s => forL g F (ds.drop (i + 1)) ρ s)) s0 G0 H0 G3 D := a3
        refine AnsS.bindS a3 fun fl s5 a3 => ?_
        cases fl with
        | nx ρ5 => exact fun σ5 G5 H5 q r5 => ⟨G5, ρ5, s5, r5, (e2.trans e3).trans q, AnsS.later q a3⟩
        | ct ρ5 => exact fun σ5 G5 H5 q r5 => ⟨G5, ρ5, s5, r5, (e2.trans e3).trans q, AnsS.later q a3⟩
        | bk ρ5 => exact a3
        | rt d => exact a3
    rcases y with ⟨rfl, hd⟩ | ⟨T, xs, rfl, nT, rfl, hd⟩
    · exact go G2 (Same.refl _) r2 hd
    · exact go _ (Same.new (r2.w.sv.free nT)) (r2.on (Nx.new r2.w nT) (r2.w.new nT fun _ z => by cases z)) hd
  · have e : i = ds.length := by omega
    subst e
    rw [List.drop_length] at a2
    exact .inl ⟨it.stop G2 H2 e2 r2.w.sv, a2 σ2 G2 H2 (Same.refl _) r2⟩
theorem cs_while (n : Nat) (hc : CmpT K Z E tt p) (hb : CmpS K Z E t F) : CmpS K Z E (tWhile tt t) (whlL p F n) := fun s0 G0 H0 G H σ ρ s D r a => by
  refine ⟨fun m σ H => ∃ G2 ρ2 s2, RepF K Z s0 G0 H0 G2 H σ ρ2 s2 ∧ AnsS K Z E (whlL p F m ρ2 s2) s0 G0 H0 G2 D, ⟨n, G, ρ, s, r, a⟩, ?_⟩
  rintro m σ2 H2 ⟨G2, ρ2, s2, r2, a2⟩
  cases m with
  | zero => exact a2.elim
  | succ m =>
    unfold whlL at a2
    refine hc _ H2 σ2 (allS ρ2) s2 _ r2.hW r2.hP (AnsS.bindH r2 a2 fun b s3 c V3 H3 n3 w3 e a3 => ?_)
    subst e
    by_cases z : c = true
    · rw [if_pos z] at a3 ⊢
      refine ⟨fun σ H => ∃ G2 ρ2 s2, RepF K Z s0 G0 H0 G2 H σ ρ2 s2 ∧ AnsS K Z E (whlL p F m ρ2 s2) s0 G0 H0 G2 D, fun σ' H' q => ⟨m, by omega, q⟩, ?_⟩
      refine hb s0 G0 H0 G2 H3 σ2 ρ2 s3 _ (r2.back n3 w3) ?_
      refine AnsS.bindS a3 fun fl s5 a3 => ?_
      cases fl with
      | nx ρ5 => exact fun σ5 G5 H5 q r5 => ⟨G5, ρ5, s5, r5, AnsS.later q a3⟩
      | ct ρ5 => exact fun σ5 G5 H5 q r5 => ⟨G5, ρ5, s5, r5, AnsS.later q a3⟩
      | bk ρ5 => exact a3
      | rt d => exact a3
    · rw [if_neg z] at a3 ⊢
      exact a3 σ2 G2 H3 (Same.refl _) (r2.back n3 w3)
end
end Pp

set_option maxHeartbeats 1000000
/-! Pp4: new lists, comprehensions. -/
namespace Pp
open PySem PySem.Spec PyProof.Rows L2 Pg Pf LamX
def AnsL (K : PySem.W.Frag) (Z : Zn) (E : XK) (r : R (List D)) (s : S) (V H : Hp) (Q : VK) : Prop := match r with
  | .ok ds s' => ∀ p vs V' H', Nx s s' V H V' H' → Wd Z.T V' H' s' → Fre H p → V' p = none → ¬ inS s' p → H' p = some (.lst vs) → DvA K Z V' vs ds → Q (.ref p) H'
  | .ex e s' => ∀ cls dd V' H', Nx s s' V H V' H' → Wd Z.T V' H' s' → ExR K Z V' cls dd e → E cls dd H'
  | .un => False
  | .dr t k => ∀ i, 0 ≤ i → i < t → AnsL K Z E (k i) s V H Q
/-- t makes a new list -/
def CmpL (K : PySem.W.Frag) (Z : Zn) (E : XK) (t : TE) (f : Slots → S → R (List D)) : Prop := ∀ V H σ ρ s Q, Wd Z.T V H s → Rep K Z V H σ ρ s → AnsL K Z E (f ρ s) s V H Q → t σ H Q
def mkL (f : Slots → S → R (List D)) (ρ : Slots) (s : S) : R D := (f ρ s).bind fun ds s => .ok (.lst ds) s
def setW (i : Nat) (f : Slots → S → R (List D)) (ρ : Slots) (s : S) : R Fl := (f ρ s).bind fun ds s => .ok (.nx (ρ.set i (.ow (.ls ds)))) s
def litL (f : Slots → S → R (List D)) (ρ : Slots) (s : S) : R (List D) := (f ρ s).bind fun ds s => if fits ds.length = true then .ok ds s else .un
section
variable {K : PySem.W.Frag} {Z : Zn} {E : XK} {te : TE} {f : Slots → S → R (List D)} {ua : TA} {s s' : S} {V H V' H' : Hp}
theorem AnsL.of {r : R (List D)} {Q : VK} (a : Ans K Z E (Dv K Z) (r.bind fun ds s => .ok (.lst ds) s) s V H Q) : AnsL K Z E r s V H Q := by
  induction r with
  | ok ds s1 => exact fun q vs V1 H1 n w1 h0 v0 i h1 hs => a (.ref q) (upd V1 q (.lst vs)) H1 (n.freeze h0 v0) (w1.freeze h1 (fun _ z => by cases z) i) (.lst upd_same (DvA.mono (Same.new v0) _ _ hs))
  | ex e s1 => exact a
  | un => exact a
  | dr t k ih => exact fun i h0 h1 => ih i (a i h0 h1)
theorem c_mkL (h : CmpL K Z E te f) : Cmp K Z E te (mkL f) := fun V H σ ρ s Q w p a => h V H σ ρ s Q w p (AnsL.of a)
theorem AnsL.ofS {r : R (List D)} {i : Nat} {s0 : S} {G0 H0 G : Hp} {σ : L2.St} {ρ : Slots} {D : Ends} (F : RepF K Z s0 G0 H0 G H σ ρ s) (a : AnsS K Z E (r.bind fun ds s => .ok (.nx (ρ.set i (.ow (.ls ds)))) s) s0 G0 H0 G D) : AnsL K Z E r s G H (fun v H' => gName i v σ H' D.nx) := by
  induction r with
  | ok ds s1 => exact fun q vs V1 H1 n w1 h0 v0 is h1 hs => a _ V1 H1 n.g ((F.on n w1).own h1 (.ls hs) v0 is (F.nx.k q h0) fun j o ej ef => (F.fr h0 ej ef).elim)
  | ex e s1 => exact fun cls dd V2 H2 n w q => a cls dd V2 H2 (F.nx.trans n) w q
  | un => exact a
  | dr t k ih => exact fun i h0 h1 => ih i (a i h0 h1)
theorem cs_setW (i : Nat) (h : CmpL K Z E te f) : CmpS K Z E (tAsg te (gName i)) (setW i f) := fun s0 G0 H0 G H σ ρ s D r a => h G H σ ρ s _ r.w r.p (AnsL.ofS r a)
theorem AnsL.new {ds : List D} {vs : List L2.V} {Q : VK} (w : Wd Z.T V H s) (hs : DvA K Z V vs ds) (a : AnsL K Z E (.ok ds s) s V H Q) : ∀ p, H p = none → Q (.ref p) (upd H p (.lst vs)) := fun p hp =>
  a p vs V _ (Nx.up hp) (w.up hp) (.inl hp) (w.sv.free hp) (fun y => w.mr.inH y hp) upd_same hs
theorem AnsL.later {r : R (List D)} {Q : VK} (x : Nx s s' V H V' H') (h : AnsL K Z E r s V H Q) : AnsL K Z E r s' V' H' Q := by
  induction r with
  | ok d s2 => exact fun q vs V2 H2 n w h0 v0 i h1 hs => h q vs V2 H2 (x.trans n) w (x.k q h0) v0 i h1 hs
  | ex e s2 => exact fun cls dd V2 H2 n w q => h cls dd V2 H2 (x.trans n) w q
  | un => exact h
  | dr t k ih => exact fun i h0 h1 => ih i (h i h0 h1)
theorem AnsL.bind {α β : Type} {Rl : Hp → β → α → Prop} {r : R α} {k : α → S → R (List D)} {Q : VK} {Q1 : β → Hp → Prop} (h : AnsL K Z E (r.bind k) s V H Q)
    (c : ∀ d s' v V' H', Nx s s' V H V' H' → Wd Z.T V' H' s' → Rl V' v d → AnsL K Z E (k d s') s' V' H' Q → Q1 v H') : Ans K Z E Rl r s V H Q1 := by
  induction r with
  | ok d s2 => exact fun v V2 H2 n w q => c d s2 v V2 H2 n w q (AnsL.later n h)
  | ex e s2 => exact h
  | un => exact h
  | dr t k ih => exact fun i h0 h1 => ih i (h i h0 h1)
/-- .. later on, what is wanted told from the beginning -/
theorem AnsL.bindAt {α β : Type} {Rl : Hp → β → α → Prop} {r : R α} {k : α → S → R (List D)} {Q : VK} {Q1 : β → Hp → Prop} (n : Nx s s' V H V' H') (h : AnsL K Z E (r.bind k) s V H Q)
    (c : ∀ d s2 v V2 H2, Nx s' s2 V' H' V2 H2 → Wd Z.T V2 H2 s2 → Rl V2 v d → AnsL K Z E (k d s2) s V H Q → Q1 v H2) : Ans K Z E Rl r s' V' H' Q1 := by
  induction r with
  | ok d s2 => exact fun v V2 H2 m w q => c d s2 v V2 H2 m w q h
  | ex e s2 => exact fun cls dd V2 H2 m w q => h cls dd V2 H2 (n.trans m) w q
  | un => exact h
  | dr t k ih => exact fun i h0 h1 => ih i (h i h0 h1)
theorem AnsL.bindL {r : R (List D)} {k : List D → S → R (List D)} {Q Q1 : VK} (h : AnsL K Z E (r.bind k) s V H Q)
    (c : ∀ ds s' p vs V' H', Nx s s' V H V' H' → Wd Z.T V' H' s' → Fre H p → V' p = none → ¬ inS s' p → H' p = some (.lst vs) → DvA K Z V' vs ds → AnsL K Z E (k ds s') s' V' H' Q → Q1 (.ref p) H') : AnsL K Z E r s V H Q1 := by
  induction r with
  | ok d s2 => exact fun p vs V2 H2 n w h0 v0 i h1 hs => c d s2 p vs V2 H2 n w h0 v0 i h1 hs (AnsL.later n h)
  | ex e s2 => exact h
  | un => exact h
  | dr t k ih => exact fun i h0 h1 => ih i (h i h0 h1)
theorem cl_lit (h : CmpA K Z E ua f) : CmpL K Z E (tLst ua) (litL f) := fun V H σ ρ s Q w p a =>
  h V H σ ρ s _ w p (AnsL.bind a fun ds s1 vs V1 H1 n1 w1 e a1 => by
    by_cases z : fits ds.length = true
    · rw [if_pos z] at a1
      exact ⟨by rw [e.len]; exact fits_le z, AnsL.new w1 e a1⟩
    · rw [if_neg z] at a1
      exact a1.elim)
/-- [..] * n -/
def repL (f : Slots → S → R (List D)) (g : Slots → S → R D) (ρ : Slots) (s : S) : R (List D) := (f ρ s).bind fun ds s => (g ρ s).bind fun y s => match y with
  | .int k => if (decide (k ≤ 1000) && fits (ds.length * k.toNat) && decide (-(2 ^ 63) ≤ k)) = true then .ok (List.replicate k.toNat ds).flatten s else .un
  | _ => .un
theorem DvA.rep {G : Hp} {vs : List L2.V} {ds : List D} (h : DvA K Z G vs ds) : ∀ n, DvA K Z G (List.replicate n vs).flatten (List.replicate n ds).flatten
  | 0 => .nil
  | n + 1 => by
    rw [List.replicate_succ, List.replicate_succ, List.flatten_cons, List.flatten_cons]
    exact h.app (DvA.rep h n)
theorem cl_rep {tb : TE} {g : Slots → S → R D} (h : CmpL K Z E te f) (hb : Cmp K Z E tb g) : CmpL K Z E (tOp rRep te tb) (repL f g) := fun V H σ ρ s Q w p a =>
  h V H σ ρ s _ w p (AnsL.bindL a fun ds s1 q vs V1 H1 n w1 h0 v0 i h1 hs a1 => hb V1 H1 σ ρ s1 _ w1 (p.later n) (AnsL.bind a1 fun d s2 v V2 H2 n2 w2 e2 a2 => by
    cases e2 with
    | int k =>
      replace a2 : AnsL K Z E (if (decide (k ≤ 1000) && fits (ds.length * k.toNat) && decide (-(2 ^ 63) ≤ k)) = true then .ok (List.replicate k.toNat ds).flatten s2 else .un) s2 V2 H2 Q := a2
      by_cases z : (decide (k ≤ 1000) && fits (ds.length * k.toNat) && decide (-(2 ^ 63) ≤ k)) = true
      · rw [if_pos z] at a2
        have z1 := Bool.and_eq_true_iff.mp z
        have z2 := Bool.and_eq_true_iff.mp z1.1
        have k1 := of_decide_eq_true z2.1
        have k2 := of_decide_eq_true z1.2
        exact ⟨q, k, vs, rfl, rfl, n2.h q _ h1 (fun _ z => by cases z) i, k2, by omega, by rw [hs.len]; exact fits_le z2.2, AnsL.new w2 ((DvA.mono n2.g _ _ hs).rep _) a2⟩
      · rw [if_neg z] at a2
        exact a2.elim
    | _ => exact a2.elim))
end
/-! ### comprehensions -/
def noex {α : Type} : R α → R α
  | .ok a s => .ok a s
  | .ex _ _ => .un
  | .un => .un
  | .dr t k => .dr t fun i => noex (k i)
def wipeS (ρ : Slots) : List Nat → Slots
  | [] => ρ
  | v :: vs => (wipeS ρ vs).set v .no
def lcL (g : D → Slots → Option Slots) (p : Slots → S → R Bool) (f : Slots → S → R D) (ρ : Slots) : List D → S → R (List D)
  | [], s => .ok [] s
  | d :: ds, s => match g d ρ with
    | none => .un
    | some ρ1 => (noex (p ρ1 s)).bind fun b s => if b = true then (noex (f ρ1 s)).bind fun y s => (lcL g p f ρ ds s).bind fun ys s => .ok (y :: ys) s else lcL g p f ρ ds s
def lcF (fi : Slots → S → R (List D)) (g : D → Slots → Option Slots) (p : Slots → S → R Bool) (f : Slots → S → R D) (vs : List Nat) (ρ : Slots) (s : S) : R (List D) := (fi ρ s).bind fun ds s => if fits ds.length = true then lcL g p f (wipeS ρ vs) ds s else .un
def yesT (_ : Slots) (s : S) : R Bool := .ok true s
theorem c_yes {K : PySem.W.Frag} {Z : Zn} {E : XK} : CmpT K Z E tYes yesT := fun V H σ ρ s Q w p a => Ans.pure w rfl a
theorem wipe_set {σ : L2.St} {i : Nat} {x : Option V} : ∀ {vs : List Nat}, i ∈ vs → wipe (σ.set i x) vs = wipe σ vs
  | v :: vs, h => by
    unfold wipe
    by_cases z : i ∈ vs
    · rw [wipe_set z]
    · have e : i = v := by
        rcases List.mem_cons.mp h with e | e
        · exact e
        · exact absurd e z
      subst e
      have o : ∀ {ws : List Nat}, i ∉ ws → wipe (σ.set i x) ws = (wipe σ ws).set i x := by
        intro ws
        induction ws with
        | nil => exact fun _ => rfl
        | cons w ws ih =>
          intro hn
          unfold wipe
          rw [ih fun m => hn (List.mem_cons_of_mem _ m), List.set_comm _ _ (fun e => hn (by rw [e]; exact List.mem_cons_self))]
      rw [o z, List.set_set]
theorem wipe_wipe (σ : L2.St) (vs : List Nat) : ∀ ws : List Nat, (∀ i ∈ ws, i ∈ vs) → wipe (wipe σ ws) vs = wipe σ vs
  | [], _ => rfl
  | w :: ws, h => by
    show wipe ((wipe σ ws).set w none) vs = _
    rw [wipe_set (h w List.mem_cons_self), wipe_wipe σ vs ws fun i hi => h i (List.mem_cons_of_mem _ hi)]
section
variable {K : PySem.W.Frag} {Z : Zn} {E : XK} {s s' : S} {V H V' H' : Hp} {σ : L2.St} {ρ : Slots}
theorem Rep.set (p : Rep K Z V H σ ρ s) {i : Nat} {v : L2.V} {d : D} (h : Dv K Z V v d) : Rep K Z V H (σ.set i (some v)) (ρ.set i (.fz d)) s := by
  have l := p.ln
  have old : ∀ {j : Nat} {x : Sl}, (ρ.set i (.fz d))[j]? = some x → (j = i ∧ x = .fz d ∧ i < ρ.length) ∨ (j ≠ i ∧ ρ[j]? = some x) := fun {j x} e => by
    by_cases z : j = i
    · subst z
      by_cases l : j < ρ.length
      · rw [List.getElem?_set_self l] at e
        exact .inl ⟨rfl, (Option.some.inj e).symm, l⟩
      · rw [List.getElem?_eq_none (by rw [List.length_set]; omega)] at e
        cases e
    · rw [List.getElem?_set_ne (Ne.symm z)] at e
      exact .inr ⟨z, e⟩
  have σo : ∀ {j : Nat}, j ≠ i → (σ.set i (some v))[j]? = σ[j]? := fun {j} z => List.getElem?_set_ne (Ne.symm z)
  refine ⟨fun j x e => ?_, fun j o e => ?_, by rw [List.length_set, List.length_set]; exact l⟩
  · rcases old e with ⟨rfl, y, l2⟩ | ⟨z, e⟩
    · cases y
      exact ⟨v, List.getElem?_set_self (by rw [l]; exact l2), h⟩
    · rw [σo z]
      exact p.fz j x e
  · rcases old e with ⟨rfl, y, l2⟩ | ⟨z, e⟩
    · cases y
    · rw [σo z]
      exact p.ow j o e
theorem Rep.wipe (p : Rep K Z V H σ ρ s) : ∀ vs : List Nat, Rep K Z V H (L2.wipe σ vs) (wipeS ρ vs) s
  | [] => p
  | v :: vs => by
    have q := Rep.wipe p vs
    have old : ∀ {j : Nat} {x : Sl}, ((wipeS ρ vs).set v .no)[j]? = some x → x ≠ .no → j ≠ v ∧ (wipeS ρ vs)[j]? = some x := fun {j x} e n => by
      by_cases z : j = v
      · subst z
        by_cases l : j < (wipeS ρ vs).length
        · rw [List.getElem?_set_self l] at e
          exact absurd (Option.some.inj e).symm n
        · rw [List.getElem?_eq_none (by rw [List.length_set]; omega)] at e
          cases e
      · rw [List.getElem?_set_ne (Ne.symm z)] at e
        exact ⟨z, e⟩
    refine ⟨fun j x e => ?_, fun j o e => ?_, ?_⟩
    · obtain ⟨z, e⟩ := old e (by simp)
      show ∃ v_1, ((L2.wipe σ vs).set v none)[j]? = some (some v_1) ∧ _
      rw [List.getElem?_set_ne (Ne.symm z)]
      exact q.fz j x e
    · obtain ⟨z, e⟩ := old e (by simp)
      show ∃ a u, ((L2.wipe σ vs).set v none)[j]? = some (some (.ref a)) ∧ _
      rw [List.getElem?_set_ne (Ne.symm z)]
      exact q.ow j o e
    · show ((L2.wipe σ vs).set v none).length = ((wipeS ρ vs).set v .no).length
      rw [List.length_set, List.length_set]
      exact q.ln
theorem Ans.noex {α β : Type} {Rl : Hp → β → α → Prop} {r : R α} {Q : β → Hp → Prop} (h : Ans K Z E Rl (Pp.noex r) s V H Q) {E' : XK} : Ans K Z E' Rl r s V H Q := by
  induction r with
  | ok d s2 => exact h
  | ex e s2 => exact h.elim
  | un => exact h
  | dr t k ih => exact fun i h0 h1 => ih i (h i h0 h1)
theorem AnsL.app {r : R (List D)} {es : List D} {Q : VK} (h : AnsL K Z E r s V H Q) (e : es = []) : AnsL K Z E (r.bind fun ys s => .ok (es ++ ys) s) s V H Q := by
  subst e
  induction r with
  | ok d s2 => exact h
  | ex e s2 => exact h
  | un => exact h
  | dr t k ih => exact fun i h0 h1 => ih i (h i h0 h1)
theorem bind_assoc' {α β γ : Type} (r : R α) (f : α → S → R β) (g : β → S → R γ) : (r.bind f).bind g = r.bind fun a s => (f a s).bind g := by
  induction r with
  | ok d s2 => rfl
  | ex e s2 => rfl
  | un => rfl
  | dr t k ih =>
    show R.dr t _ = R.dr t _
    congr 1
    funext i
    exact ih i
variable {wi : TI} {g : TG} {gg : D → Slots → Option Slots} {is vs : List Nat} {tt : TT} {p : Slots → S → R Bool} {te : TE} {f : Slots → S → R D} {fi : Slots → S → R (List D)}
theorem cl_lc (hi : CmpI K Z E wi fi) (hg : CmpG g gg is K Z) (his : ∀ i ∈ is, i ∈ vs) (hp : CmpT K Z E0 tt p) (hf : Cmp K Z E0 te f) : CmpL K Z E (tLc wi g tt te vs) (lcF fi gg p f vs) := by
  intro V H σ ρ s Q w q a
  refine hi V H σ ρ s _ w q (AnsL.bind a fun ds s1 J V1 H1 n1 w1 it a1 => ?_)
  by_cases fz : fits ds.length = true
  case neg =>
    rw [if_neg fz] at a1
    exact a1.elim
  rw [if_pos fz] at a1
  intro L hL
  have gL : V1 L = none := w1.sv.free hL
  have iL : ¬ inS s1 L := fun y => w1.mr.inH y hL
  have q1 := q.later n1
  -- behind i turns
  refine ⟨fun i m H2 => m = ds.length - i ∧ i ≤ ds.length ∧ ∃ V2 s2 acc es, Nx s1 s2 V1 H1 V2 H2 ∧ Wd Z.T V2 H2 s2 ∧ V2 L = none ∧ H2 L = some (.lst acc) ∧ DvA K Z V2 acc es ∧ es.length ≤ i ∧
    AnsL K Z E ((lcL gg p f (wipeS ρ vs) (ds.drop i) s2).bind fun ys s => .ok (es ++ ys) s) s1 V1 H1 Q, ⟨ds.length, by simp, Nat.zero_le _, V1, s1, [], [], Nx.up hL, w1.up hL, gL, upd_same, .nil, Nat.zero_le _, ?_⟩, ?_⟩
  · rw [List.drop_zero]
    exact AnsL.app a1 rfl
  rintro i m H2 ⟨rfl, hi2, V2, s2, acc, es, n2, w2, v2, h2, d2, l2, a2⟩
  by_cases l : i < ds.length
  · refine .inr ⟨it.go i V2 H2 n2.g w2.sv l, fun H3 => ∃ V2 s2 acc es, Nx s1 s2 V1 H1 V2 H3 ∧ Wd Z.T V2 H3 s2 ∧ V2 L = none ∧ H3 L = some (.lst acc) ∧ DvA K Z V2 acc es ∧ es.length ≤ i + 1 ∧
      AnsL K Z E ((lcL gg p f (wipeS ρ vs) (ds.drop (i + 1)) s2).bind fun ys s => .ok (es ++ ys) s) s1 V1 H1 Q, fun H3 y => ⟨ds.length - (i + 1), by omega, rfl, l, y⟩, fun x H3 y => ?_⟩
    obtain ⟨d, ed, y⟩ := it.yld i V2 H2 x H3 n2.g w2.sv l y
    have dd : ds.drop i = d :: ds.drop (i + 1) := by
      rw [List.drop_eq_getElem_cons l]
      rw [List.getElem?_eq_getElem l] at ed
      rw [Option.some.inj ed]
    rw [dd] at a2
    have iL2 : ¬ inS s2 L := by rw [inS_of n2.a]; exact iL
    -- the turn, from any view that knows the item
    have go : ∀ V3, Nx s2 s2 V2 H2 V3 H3 → Wd Z.T V3 H3 s2 → Dv K Z V3 x d → V3 L = none → H3 L = some (.lst acc) → g x (wipe σ vs) H3 fun σ2 H2 => wipe σ2 vs = wipe σ vs ∧ tt σ2 H2 fun b H3 =>
        if b = true then te σ2 H3 fun y H4 => ∃ acc, H4 L = some (.lst acc) ∧ acc.length < sizeLine ∧ (∃ V2 s2 acc' es, Nx s1 s2 V1 H1 V2 (upd H4 L (.lst (acc ++ [y]))) ∧ Wd Z.T V2 (upd H4 L (.lst (acc ++ [y]))) s2 ∧ V2 L = none ∧ (upd H4 L (.lst (acc ++ [y]))) L = some (.lst acc') ∧ DvA K Z V2 acc' es ∧ es.length ≤ i + 1 ∧
          AnsL K Z E ((lcL gg p f (wipeS ρ vs) (ds.drop (i + 1)) s2).bind fun ys s => .ok (es ++ ys) s) s1 V1 H1 Q) else (∃ V2 s2 acc es, Nx s1 s2 V1 H1 V2 H3 ∧ Wd Z.T V2 H3 s2 ∧ V2 L = none ∧ H3 L = some (.lst acc) ∧ DvA K Z V2 acc es ∧ es.length ≤ i + 1 ∧
          AnsL K Z E ((lcL gg p f (wipeS ρ vs) (ds.drop (i + 1)) s2).bind fun ys s => .ok (es ++ ys) s) s1 V1 H1 Q) := by
      intro V3 n3 w3 hd v3 h3
      have q3 := (q1.later n2).later n3
      have qw := q3.wipe vs
      refine hg (fun σ' ρ' => Rep K Z V3 H3 σ' ρ' s2 ∧ wipe σ' vs = wipe σ vs) V3 H3 w3.sv (fun σ' ρ' j v d' hj ⟨y1, y2⟩ hd' => ⟨y1.set hd', by rw [wipe_set (his j hj)]; exact y2⟩) (wipe σ vs) (wipeS ρ vs) x d _ ⟨qw, wipe_wipe σ vs vs fun _ h => h⟩ hd ?_
      unfold lcL at a2
      cases eg : gg d (wipeS ρ vs) with
      | none =>
        rw [eg] at a2
        exact a2
      | some ρ4 =>
        rw [eg] at a2
        intro σ4 ⟨q4, e4⟩
        refine ⟨e4, ?_⟩
        replace a2 : AnsL K Z E (((noex (p ρ4 s2)).bind fun b s => if b = true then (noex (f ρ4 s)).bind fun y s => (lcL gg p f (wipeS ρ vs) (ds.drop (i + 1)) s).bind fun ys s => .ok (y :: ys) s else lcL gg p f (wipeS ρ vs) (ds.drop (i + 1)) s).bind fun ys s => .ok (es ++ ys) s) s1 V1 H1 Q := a2
        rw [bind_assoc'] at a2
        refine hp V3 H3 σ4 ρ4 s2 _ w3 q4 (Ans.noex (AnsL.bindAt (n2.trans n3) a2 fun b s5 c V5 H5 n5 w5 ec a2 => ?_))
        subst ec
        have n25 := n3.trans n5
        have h5 := n5.h L _ h3 (fun _ z => by cases z) iL2
        have v5 := n5.not v3 h3 (fun _ z => by cases z)
        by_cases hb : c = true
        · rw [if_pos hb] at a2 ⊢
          rw [bind_assoc'] at a2
          refine hf V5 H5 σ4 ρ4 s5 _ w5 (q4.later n5) (Ans.noex (AnsL.bindAt (n2.trans n25) a2 fun yd s6 yv V6 H6 n6 w6 hy a2 => ?_))
          have iL5 : ¬ inS s5 L := by rw [inS_of n5.a]; exact iL2
          have h6 := n6.h L _ h5 (fun _ z => by cases z) iL5
          have v6 := n6.not v5 h5 (fun _ z => by cases z)
          have iL6 : ¬ inS s6 L := by rw [inS_of n6.a]; exact iL5
          have n16 := (n2.trans n25).trans n6
          refine ⟨acc, h6, ?_, V6, s6, _, es ++ [yd], n16.mut (.inl hL), w6.mut h6 v6 iL6 (fun _ z => by cases z) (fun _ z => by cases z), v6, upd_same, (DvA.mono (n25.g.trans n6.g) _ _ d2).snoc hy, by rw [List.length_append]; show es.length + 1 ≤ i + 1; omega, ?_⟩
          · rw [d2.len]
            exact Nat.lt_of_lt_of_le (Nat.lt_of_le_of_lt l2 l) (fits_le fz)
          · rw [bind_assoc'] at a2
            have e9 : (fun (a : List D) (s : S) => (R.ok (yd :: a) s).bind fun ys s => R.ok (es ++ ys) s) = fun (ys : List D) (s : S) => R.ok ((es ++ [yd]) ++ ys) s := by
              funext ys s
              show R.ok (es ++ yd :: ys) s = _
              rw [show es ++ yd :: ys = (es ++ [yd]) ++ ys by simp]
            rw [e9] at a2
            exact a2
        · rw [if_neg hb] at a2 ⊢
          exact ⟨V5, s5, acc, es, n2.trans n25, w5, v5, h5, DvA.mono n25.g _ _ d2, by omega, a2⟩
    rcases y with ⟨rfl, hd⟩ | ⟨T, xs, rfl, nT, rfl, hd⟩
    · exact go V2 (Nx.refl _ _ _) w2 hd v2 h2
    · have ne : L ≠ T := ne_of_none h2 nT
      exact go _ (Nx.new w2 nT) (w2.new nT fun _ z => by cases z) hd (by rw [upd_ne ne]; exact v2) (by rw [upd_ne ne]; exact h2)
  · have e : i = ds.length := by omega
    subst e
    rw [List.drop_length] at a2
    refine .inl ⟨it.stop V2 H2 n2.g w2.sv, ?_⟩
    have a3 : AnsL K Z E (.ok (es ++ []) s2) s1 V1 H1 Q := a2
    rw [List.append_nil] at a3
    exact a3 L acc V2 H2 n2 w2 (.inl hL) v2 (by rw [inS_of n2.a]; exact iL) h2 d2
end
end Pp

set_option maxHeartbeats 1000000
/-! Pp5: defs, calls, methods, attributes, properties, instances made. -/
namespace Pp
open PySem PySem.Spec PyProof.Rows L2 Pg Pf LamX
def st0 (n : Nat) (ds : List D) : Slots := ds.map Sl.fz ++ List.replicate (n - ds.length) Sl.no
def endF (fl : Fl) (s : S) : R D := match fl with
  | .rt d => .ok d s
  | .nx _ => .ok .non s
  | _ => .un
def runS (F : Slots → S → R Fl) (n : Nat) (ds : List D) (s : S) : R D := (F (st0 n ds) s).bind endF
/-- a def that computes F -/
def spD (K : PySem.W.Frag) (Z : Zn) (n : Nat) (F : List D → S → R D) : Sp := fun vs H Q E => vs.length = n ∧ ∃ V ds s, Wd Z.T V H s ∧ DvA K Z V vs ds ∧ Ans K Z E (Dv K Z) (F ds s) s V H Q
section
variable {K : PySem.W.Frag} {Z : Zn} {n : Nat} {F F' : List D → S → R D} {vs : List V} {H V : Hp} {s : S} {ds : List D}
/-- F' says what F does, or nothing -/
def Le (F' F : List D → S → R D) : Prop := ∀ ds s, F' ds s = .un ∨ F ds s = F' ds s
theorem spD_imp (h : Le F' F) : ∀ vs H Q E, spD K Z n F' vs H Q E → spD K Z n F vs H Q E := by
  rintro vs H Q E ⟨l, V, ds, s, w, r, a⟩
  refine ⟨l, V, ds, s, w, r, ?_⟩
  rcases h ds s with e | e
  · rw [e] at a
    exact a.elim
  · rw [e]
    exact a
theorem start_rep {N : List Str} {vs : List L2.V} (w : Wd Z.T V H s) (r : DvA K Z V vs ds) (hl : vs.length ≤ N.length) : RepF K Z s V H V H (L2.start N vs) (st0 N.length ds) s := by
  have len : (L2.start N vs).length = (st0 N.length ds).length := by
    unfold L2.start st0
    rw [List.length_append, List.length_append, List.length_map, List.length_map, List.length_replicate, List.length_replicate, r.len]
  have no : ∀ (i : Nat) (o : OD), (st0 N.length ds)[i]? ≠ some (.ow o) := fun i o e => by
    have m := List.mem_of_getElem? e
    unfold st0 at m
    rcases List.mem_append.mp m with m | m
    · obtain ⟨d, _, z⟩ := List.mem_map.mp m
      cases z
    · cases (List.mem_replicate.mp m).2
  refine ⟨Nx.refl _ _ _, w, ⟨fun i d e => ?_, fun i o e => (no i o e).elim, len⟩, fun i o a e _ => (no i o e).elim, fun i j o u a _ e _ _ _ => (no i o e).elim, len⟩
  have hd : ds[i]? = some d := by
    unfold st0 at e
    by_cases l : i < (ds.map Sl.fz).length
    · rw [List.getElem?_append_left l, List.getElem?_map] at e
      cases q : ds[i]? with
      | none =>
        rw [q] at e
        cases e
      | some y =>
        rw [q] at e
        cases e
        rfl
    · have m := List.mem_of_getElem? (by rw [List.getElem?_append_right (by omega)] at e; exact e)
      cases (List.mem_replicate.mp m).2
  obtain ⟨v, h1, h2⟩ := r.at hd
  refine ⟨v, ?_, h2⟩
  unfold L2.start
  have l : i < (vs.map some).length := by
    rw [List.length_map]
    exact (List.getElem?_eq_some_iff.mp h1).1
  rw [List.getElem?_append_left l, List.getElem?_map, h1]
  rfl
theorem run_ans {E : XK} {Q : VK} {Fb : Slots → S → R Fl} {m : Nat} (a : Ans K Z E (Dv K Z) (runS Fb m ds s) s V H Q) : AnsS K Z E (Fb (st0 m ds) s) s V H V { nx := fun _ H' => Q .non H', rt := Q } := by
  unfold runS at a
  generalize Fb (st0 m ds) s = r at a
  induction r with
  | ok fl s1 =>
    cases fl with
    | rt d => exact a
    | nx ρ => exact fun σ G' H' _ r => a .non G' H' r.nx r.w .non
    | bk ρ => exact a.elim
    | ct ρ => exact a.elim
  | ex e s1 => exact a
  | un => exact a
  | dr t k ih => exact fun i h0 h1 => ih i (a i h0 h1)
end
/-- a block that computes -/
structure PPS (X : Cx) (Z : Zn) (E : XK) (sts : List Stmt) (t : TS) (F : Slots → S → R Fl) : Prop where
  pe : PSs X sts t
  cm : CmpS X.K Z E t F
section
variable {P : Program} {w : World} {K : PySem.W.Frag} {mg : Str → Option Value} {base : Heap} {k : Nat} {f : Addr} {fd : FuncData} {N ps : List Str} {x qual : Str} {st : Stmt} {Z : Zn} {Fb : Slots → S → R Fl}
theorem fnO (Fu : Fun K x qual st f fd) (S : FnScope N ps (defScope st)) (hl : ps.length ≤ N.length)
    (hb : ∀ (cdv : Value) (A : Around) (outer : List PySem.Env) (s : Shared) (H : Hp) (E : XK), Room k (A.deeper (envOfC qual (defScope st) s.heap.objs.size f cdv)) → ∃ t, PPS (cxOf (L2.CX P w) P w K mg base N qual (defScope st) f cdv A outer s H E) Z E (defBody st) t Fb) :
    FnOk P w K mg base (L2.CX P w) (k + 1) f fd ps (spD K Z ps.length (runS Fb N.length)) := by
  refine Fu.okX S (fun vs H Q E h => h.1) (fun cdv A outer s H vs Q E hr h => ?_)
  obtain ⟨l, V, ds, s1, w1, r, a⟩ := h
  obtain ⟨t, h1, h2⟩ := hb cdv A outer s H E hr
  exact ⟨t, h1, h2 s1 V H V H _ _ s1 _ (start_rep w1 r (by omega)) (run_ans a)⟩
end
/-- a def of the module that computes F, called by its name -/
structure CalD (P : Program) (w : World) (K : PySem.W.Frag) (mg : Str → Option Value) (base : Heap) (Z : Zn) (k : Nat) (x : Str) (n : Nat) (F : List D → S → R D) : Prop where
  ex : ∃ (f : Addr) (fd : FuncData) (ps : List Str), FnOk P w K mg base (L2.CX P w) k f fd ps (spD K Z n F) ∧ mg x = some (.ref f) ∧ PySem.W.keepIn K (.ref f) = true ∧ Binds K fd ps []
/-- a method of class c -/
structure MetD (P : Program) (w : World) (K : PySem.W.Frag) (mg : Str → Option Value) (base : Heap) (Z : Zn) (k : Nat) (c : Nat) (x : Str) (n : Nat) (F : List D → S → R D) : Prop where
  ex : ∃ (f : Addr) (fd : FuncData) (ps : List Str), FnOk P w K mg base (L2.CX P w) k f fd ps (spD K Z n F) ∧ Meth K (Z.cl c) x f ∧ Binds K fd ps []
  cl : Cls K (Z.cl c)
  na : x ∉ nm c
/-- how many, then F -/
def nF (n : Nat) (F : List D → S → R D) (ds : List D) (s : S) : R D := if ds.length = n then F ds s else .un
def metF (c n : Nat) (F : List D → S → R D) (f : Slots → S → R D) (fa : Slots → S → R (List D)) (ρ : Slots) (s : S) : R D := (f ρ s).bind fun d s => match d with
  | .obj c' es => if c' = c then (fa ρ s).bind fun xs s => nF n F (.obj c' es :: xs) s else .un
  | _ => .un
def fldF (c i : Nat) (d : D) (s : S) : R D := match d with
  | .obj c' es => if c' = c then (match es[i]? with
    | some d => .ok d s
    | none => .un) else .un
  | _ => .un
section
variable {K : PySem.W.Frag} {Z : Zn} {E : XK} {n c : Nat} {F : List D → S → R D} {ua : TA} {fa : Slots → S → R (List D)} {te : TE} {f : Slots → S → R D}
theorem c_call' (ha : CmpA K Z E ua fa) : Cmp K Z E (tCall (spD K Z n F) [] E ua) (bC (nF n F) fa) := fun V H σ ρ s Q w p a =>
  ha V H σ ρ s _ w p (Ans.bind a fun ds s1 vs V1 H1 n1 w1 r1 a1 => by
    unfold nF at a1
    by_cases l : ds.length = n
    · rw [if_pos l] at a1
      exact ⟨by rw [List.append_nil, r1.len]; exact l, V1, ds, s1, w1, by rw [List.append_nil]; exact r1, a1⟩
    · rw [if_neg l] at a1
      exact a1.elim)
theorem lookup_not {x : Str} : ∀ {fs : List (Str × V)} {ns : List Str}, fs.map Prod.fst = ns → x ∉ ns → fs.lookup x = none
  | [], _, _, _ => rfl
  | (y, v) :: fs, _, h, hn => by
    subst h
    rw [List.lookup_cons]
    have : (x == y) = false := by
      apply Bool.eq_false_iff.mpr
      intro z
      exact hn (by rw [eq_of_beq z]; exact List.mem_cons_self)
    rw [this]
    exact lookup_not rfl fun m => hn (List.mem_cons_of_mem _ m)
theorem c_meth {x : Str} (na : x ∉ nm c) (he : Cmp K Z E te f) (ha : CmpA K Z E ua fa) : Cmp K Z E (tMeth (Z.cl c) x (spD K Z n F) [] E te ua) (metF c n F f fa) := fun V H σ ρ s Q w p a =>
  he V H σ ρ s _ w p (Ans.bind a fun d s1 v V1 H1 n1 w1 r1 a1 => by
    cases r1 with
    | @obj b c' dx fs es h hn hs =>
      replace a1 : Ans K Z E (Dv K Z) (if c' = c then (fa ρ s1).bind fun xs s => nF n F (.obj c' es :: xs) s else .un) s1 V1 H1 Q := a1
      by_cases ec : c' = c
      · rw [if_pos ec] at a1
        subst ec
        refine ⟨b, dx, fs, rfl, w1.sv _ _ h, lookup_not hn na, ?_⟩
        refine ha V1 H1 σ ρ s1 _ w1 (p.later n1) (Ans.bind a1 fun ds s2 vs V2 H2 n2 w2 r2 a2 => ?_)
        unfold nF at a2
        by_cases l : (D.obj c' es :: ds).length = n
        · rw [if_pos l] at a2
          refine ⟨?_, V2, .obj c' es :: ds, s2, w2, ?_, a2⟩
          · rw [List.append_nil, List.length_cons, r2.len]
            exact l
          · rw [List.append_nil]
            exact .cons (.obj (n2.g _ _ h) hn (DvA.mono n2.g _ _ hs)) r2
        · rw [if_neg l] at a2
          exact a2.elim
      · rw [if_neg ec] at a1
        exact a1.elim
    | _ => exact a1.elim)
theorem lookup_at {f : Str} : ∀ {fs : List (Str × V)} {ns : List Str} {i : Nat} {v : V}, fs.map Prod.fst = ns → ns.Nodup → ns[i]? = some f → (fs.map Prod.snd)[i]? = some v → fs.lookup f = some v
  | [], _, i, _, h, _, hi, _ => by
    subst h
    simp at hi
  | (y, u) :: fs, _, 0, v, h, _, hi, hv => by
    subst h
    simp at hi hv
    rw [List.lookup_cons, hi, hv]
    simp
  | (y, u) :: fs, _, i + 1, v, h, nd, hi, hv => by
    subst h
    simp only [List.map_cons, List.getElem?_cons_succ] at hi hv
    rw [List.map_cons, List.nodup_cons] at nd
    rw [List.lookup_cons]
    have : (f == y) = false := by
      apply Bool.eq_false_iff.mpr
      intro z
      apply nd.1
      rw [← eq_of_beq z]
      exact List.mem_of_getElem? hi
    rw [this]
    exact lookup_at rfl nd.2 hi hv
theorem c_fld {x : Str} {i : Nat} (cl : Cls K (Z.cl c)) (no : NoAttr K (Z.cl c) x) (nd : (nm c).Nodup) (hi : (nm c)[i]? = some x) (he : Cmp K Z E te f) : Cmp K Z E (tFld K te x) (b1 (fldF c i) f) := fun V H σ ρ s Q w p a =>
  he V H σ ρ s _ w p (Ans.bind a fun d s1 v V1 H1 n1 w1 r1 a1 => by
    cases r1 with
    | @obj b c' dx fs es h hn hs =>
      replace a1 : Ans K Z E (Dv K Z) (if c' = c then (match es[i]? with | some d => .ok d s1 | none => .un) else .un) s1 V1 H1 Q := a1
      by_cases ec : c' = c
      · rw [if_pos ec] at a1
        subst ec
        cases e : es[i]? with
        | none =>
          rw [e] at a1
          exact a1.elim
        | some d =>
          rw [e] at a1
          obtain ⟨v, h1, h2⟩ := hs.at e
          exact ⟨b, Z.cl c', dx, fs, v, rfl, w1.sv _ _ h, cl, no, lookup_at hn nd hi h1, Ans.pure w1 h2 a1⟩
      · rw [if_neg ec] at a1
        exact a1.elim
    | _ => exact a1.elim)
/-- a property that hands back an attribute -/
theorem c_prop {x : Str} {i : Nat} {E' : XK} (nd : (nm c).Nodup) (hi : (nm c)[i]? = some x) (he : Cmp K Z E te f) : Cmp K Z E (tProp (Z.cl c) (getSp (Z.cl c) x) [] E' te) (b1 (fldF c i) f) := fun V H σ ρ s Q w p a =>
  he V H σ ρ s _ w p (Ans.bind a fun d s1 v V1 H1 n1 w1 r1 a1 => by
    cases r1 with
    | @obj b c' dx fs es h hn hs =>
      replace a1 : Ans K Z E (Dv K Z) (if c' = c then (match es[i]? with | some d => .ok d s1 | none => .un) else .un) s1 V1 H1 Q := a1
      by_cases ec : c' = c
      · rw [if_pos ec] at a1
        subst ec
        cases e : es[i]? with
        | none =>
          rw [e] at a1
          exact a1.elim
        | some d =>
          rw [e] at a1
          obtain ⟨v, h1, h2⟩ := hs.at e
          exact ⟨b, dx, fs, rfl, w1.sv _ _ h, b, dx, fs, v, rfl, w1.sv _ _ h, lookup_at hn nd hi h1, Ans.pure w1 h2 a1⟩
      · rw [if_neg ec] at a1
        exact a1.elim
    | _ => exact a1.elim)
/-- C(..) by what its __init__ promises -/
def CmpM (K : PySem.W.Frag) (Z : Zn) (C : Addr) (sp : Sp) (F : List D → S → R D) : Prop := ∀ V H s xs ds Q E a dx, Wd Z.T V H s → DvA K Z V xs ds → H a = none → H dx = none → dx ≠ a → Ans K Z E (Dv K Z) (F ds s) s V H Q →
  sp (.ref a :: xs) (upd (upd H dx (.own a)) a (.ins C dx [])) (fun v H2 => v = .non ∧ Q (.ref a) H2) E
theorem c_make {C : Addr} {sp : Sp} (hm : CmpM K Z C sp F) (ha : CmpA K Z E ua fa) : Cmp K Z E (tMake C sp [] E ua) (bC F fa) := fun V H σ ρ s Q w p a =>
  ha V H σ ρ s _ w p (Ans.bind a fun ds s1 vs V1 H1 n1 w1 r1 a1 => fun x dx h1 h2 h3 => by
    rw [List.append_nil]
    exact hm V1 H1 s1 vs ds Q E x dx w1 r1 h1 h2 h3 a1)
end
/-! ### the rules as they are written -/
section
variable {X : Cx} {Z : Zn} {E : XK} {j k n c : Nat} {x p : Str} {np pos apos : Pos} {o e : Expr} {es : List Expr} {ta : TE} {t : TA} {f : Slots → S → R D} {fa : Slots → S → R (List D)} {F : List D → S → R D}
theorem pp_call (cd : CalD X.prog X.w X.K X.mg X.base Z k x n F) (hr : Room j X.A) (hk : k ≤ j) (hx : Passes (L2.CX X.prog X.w) X E) (hg : Gl X x) (ha : PPA X Z E (e :: es) t fa)
    (hdb : (x == ("__debug__" : Str)) = false := by decide) (he : starEach (e :: es) X.env = (false, eval e X.env) :: starEach es X.env := by rfl) (hpl : (backTo pos (starEach es X.env)).any (·.1) = false := by rfl) :
    PP X Z E (.Call (.Name x np) (e :: es) [] pos) (tCall (spD X.K Z n F) [] E t) (bC (nF n F) fa) := by
  obtain ⟨g, fd, ps, Fn, hm, kp, b⟩ := cd.ex
  exact ⟨pe_call Fn (hr.mono hk) hg hm kp b .nil hx ha.pe hdb he hpl, c_call' ha.cm⟩
theorem pp_call0 (cd : CalD X.prog X.w X.K X.mg X.base Z k x n F) (hr : Room j X.A) (hk : k ≤ j) (hx : Passes (L2.CX X.prog X.w) X E) (hg : Gl X x) (hdb : (x == ("__debug__" : Str)) = false := by decide) :
    PP X Z E (.Call (.Name x np) [] [] pos) (tCall (spD X.K Z n F) [] E tNil) (bC (nF n F) nilA) := by
  obtain ⟨g, fd, ps, Fn, hm, kp, b⟩ := cd.ex
  exact ⟨pe_call0 Fn (hr.mono hk) hg hm kp b .nil hx hdb, c_call' c_nil⟩
theorem pp_meth {pl : Sem Bool} (cd : MetD X.prog X.w X.K X.mg X.base Z k c x n F) (hr : Room j X.A) (hk : k ≤ j) (hx : Passes (L2.CX X.prog X.w) X E) (ho : PP X Z E o ta f) (ha : PPA X Z E (e :: es) t fa)
    (hst : starEach (e :: es) X.env = (false, eval e X.env) :: starEach es X.env := by rfl) (hpl : (backTo pos (starEach es X.env)).any (·.1) = false := by rfl)
    (ht : eval (.Call (.Attribute o x apos) (e :: es) [] pos) X.env = (do
      let ov ← eval o X.env
      standAt apos.atName
      let (f, first) ← holding [ov] (getMethod ov x pl)
      callWith pos f first (backTo pos (starEach (e :: es) X.env)) (backToKw pos (keywordEach [] X.env))) := by rfl) :
    PP X Z E (.Call (.Attribute o x apos) (e :: es) [] pos) (tMeth (Z.cl c) x (spD X.K Z n F) [] E ta t) (metF c n F f fa) := by
  obtain ⟨g, fd, ps, Fn, hm, b⟩ := cd.ex
  exact ⟨pe_meth ho.pe cd.cl hm Fn (hr.mono hk) b .nil hx ha.pe hst hpl ht, c_meth cd.na ho.cm ha.cm⟩
theorem pp_meth0 {pl : Sem Bool} (cd : MetD X.prog X.w X.K X.mg X.base Z k c x n F) (hr : Room j X.A) (hk : k ≤ j) (hx : Passes (L2.CX X.prog X.w) X E) (ho : PP X Z E o ta f)
    (ht : eval (.Call (.Attribute o x apos) [] [] pos) X.env = (do
      let ov ← eval o X.env
      standAt apos.atName
      let (f, first) ← holding [ov] (getMethod ov x pl)
      callWith pos f first (backTo pos (starEach [] X.env)) (backToKw pos (keywordEach [] X.env))) := by rfl) :
    PP X Z E (.Call (.Attribute o x apos) [] [] pos) (tMeth (Z.cl c) x (spD X.K Z n F) [] E ta tNil) (metF c n F f nilA) := by
  obtain ⟨g, fd, ps, Fn, hm, b⟩ := cd.ex
  exact ⟨pe_meth0 ho.pe cd.cl hm Fn (hr.mono hk) b .nil hx ht, c_meth cd.na ho.cm c_nil⟩
end
end Pp

set_option maxHeartbeats 1000000
/-! Pp6: defs that let nothing out, called where nothing is being shown. -/
namespace Pp
open PySem PySem.Spec PyProof.Rows L2 Pg Pf LamX
def spG (K : PySem.W.Frag) (Z : Zn) (n : Nat) (F : List D → S → R D) : Sp := fun vs H Q _ => vs.length = n ∧ ∃ V ds s, Wd Z.T V H s ∧ DvA K Z V vs ds ∧ Ans K Z E0 (Dv K Z) (F ds s) s V H Q
def neF (F : List D → S → R D) (ds : List D) (s : S) : R D := noex (F ds s)
section
variable {P : Program} {w : World} {K : PySem.W.Frag} {mg : Str → Option Value} {base : Heap} {k n : Nat} {f : Addr} {fd : FuncData} {N ps : List Str} {x qual : Str} {st : Stmt} {Z : Zn} {Fb : Slots → S → R Fl} {sp sp' : Sp} {F F' : List D → S → R D}
theorem FnG.imp (Fu : FnG P w K mg base k f fd ps sp) (h : ∀ vs H Q E, sp' vs H Q E → sp vs H Q E) : FnG P w K mg base k f fd ps sp' :=
  ⟨fun vs H Q E q => Fu.len vs H Q E (h _ _ _ _ q), fun A outer s H args us vs Q E hr hg he hb hv hs => Fu.run A outer s H args us vs Q E hr hg he hb hv (h _ _ _ _ hs)⟩
theorem CalG.imp (c : CalG P w K mg base k x sp) (h : ∀ vs H Q E, sp' vs H Q E → sp vs H Q E) : CalG P w K mg base k x sp' := by
  obtain ⟨f, fd, ps, F, r⟩ := c.ex
  exact ⟨f, fd, ps, FnG.imp F h, r⟩
theorem spG_imp (h : Le F' F) : ∀ vs H Q E, spG K Z n F' vs H Q E → spG K Z n F vs H Q E := by
  rintro vs H Q E ⟨l, V, ds, s, w, r, a⟩
  refine ⟨l, V, ds, s, w, r, ?_⟩
  rcases h ds s with e | e
  · rw [e] at a
    exact a.elim
  · rw [e]
    exact a
theorem fnGd (Fu : Fun K x qual st f fd) (S : FnScope N ps (defScope st)) (hl : ps.length ≤ N.length)
    (hb : ∀ (cdv : Value) (A : Around) (outer : List PySem.Env) (s : Shared) (H : Hp) (E : XK), Room k (A.deeper (envOfC qual (defScope st) s.heap.objs.size f cdv)) → (A.deeper (envOfC qual (defScope st) s.heap.objs.size f cdv)).guards = some [] → ∃ t, PPS (cxOf CX0 P w K mg base N qual (defScope st) f cdv A outer s H E).nox Z E0 (defBody st) t Fb) :
    FnG P w K mg base (k + 1) f fd ps (spG K Z ps.length (runS Fb N.length)) := by
  refine okG Fu S (fun vs H Q E h => h.1) (fun cdv A outer s H vs Q E hr hg h => ?_)
  obtain ⟨l, V, ds, s1, w1, r, a⟩ := h
  obtain ⟨t, h1, h2⟩ := hb cdv A outer s H E hr hg
  exact ⟨t, h1, h2 s1 V H V H _ _ s1 _ (start_rep w1 r (by omega)) (run_ans a)⟩
theorem c_callG {E : XK} {ua : TA} {fa : Slots → S → R (List D)} (ha : CmpA K Z E ua fa) : Cmp K Z E (tCallG (spG K Z n F) ua) (bC (nF n (neF F)) fa) := fun V H σ ρ s Q w p a =>
  ha V H σ ρ s _ w p (Ans.bind a fun ds s1 vs V1 H1 n1 w1 r1 a1 => by
    unfold nF at a1
    by_cases l : ds.length = n
    · rw [if_pos l] at a1
      exact ⟨by rw [r1.len]; exact l, V1, ds, s1, w1, r1, Ans.noex a1⟩
    · rw [if_neg l] at a1
      exact a1.elim)
end
section
variable {X : Cx} {k j : Nat} {x : Str} {sp : Sp} {p pos : Pos}
/-- a call with no arguments -/
theorem pe_cG0 (c : CalG X.prog X.w X.K X.mg X.base k x sp) (hr : Room j X.A) (hk : k ≤ j) (hgd : X.A.guards = some []) (hg : Gl X x) (hdb : (x == ("__debug__" : Str)) = false := by decide) : PE X (.Call (.Name x p) [] [] pos) (tCallG sp tNil) := by
  obtain ⟨f, fd, ps, F, hm, kp, b⟩ := c.ex
  refine ⟨fun pins s σ H Q I h => ?_⟩
  refine wpAny_Call_Name_kw (ld_glob I hg hm ?_ hdb)
  exact PySem.W.callWith_K0 I.kIn kp (run_fnG (us := []) F (hr.mono hk) hgd b I .nil h)
end
/-! ### more operations -/
section
variable {K : PySem.W.Frag} {Z : Zn} {E : XK}
def powF (x y : D) (s : S) : R D := match x, y with
  | .int i, .int j => if (decide (0 ≤ j) && decide (j ≤ 1000000) && decide (i.natAbs < 2 ^ 64)) = true then .ok (.int (i ^ j.toNat)) s else .un
  | _, _ => .un
theorem c2_pow : Cmp2 K Z E (rI CPow fun i j => .int (i ^ j.toNat)) powF := fun V H s x y dx dy Q w rx ry a => by
  cases rx with
  | int i =>
    cases ry with
    | int j =>
      change Ans K Z E (Dv K Z) (if _ then _ else _) s V H Q at a
      split at a
      case isTrue e =>
        have e1 := Bool.and_eq_true_iff.mp e
        have e2 := Bool.and_eq_true_iff.mp e1.1
        exact ⟨i, j, rfl, rfl, ⟨of_decide_eq_true e2.1, of_decide_eq_true e2.2, of_decide_eq_true e1.2⟩, Ans.pure w (.int _) a⟩
      case isFalse => exact a.elim
    | _ => exact a.elim
  | _ => exact a.elim
/-! ### data as PyData -/
mutual
def D.py : D → PyData
  | .non => .none
  | .bl b => .bool b
  | .int i => .int i
  | .str x => .str x
  | .tup ds => .tuple (pyA ds)
  | .lst ds => .list (pyA ds)
  | .obj _ _ => .none
  | .adr _ => .none
  | .emp => .none
def pyA : List D → List PyData
  | [] => []
  | d :: ds => d.py :: pyA ds
end
mutual
def D.isPy : D → Bool
  | .non => true
  | .bl _ => true
  | .int _ => true
  | .str _ => true
  | .tup ds => isPyA ds
  | .lst ds => isPyA ds
  | .obj _ _ => false
  | .adr _ => false
  | .emp => false
def isPyA : List D → Bool
  | [] => true
  | d :: ds => d.isPy && isPyA ds
end
mutual
theorem Dv.dp {G : Hp} : ∀ (d : D) (v : V), Dv K Z G v d → d.isPy = true → Dp K G v d.py
  | .non, _, h, _ => by cases h; exact .non
  | .bl _, _, h, _ => by cases h; exact .bl _
  | .int _, _, h, _ => by cases h; exact .int _
  | .str _, _, h, _ => by cases h; exact .str _
  | .tup ds, _, h, e => by
    cases h with
    | tup a b => exact .tup a (DvA.dp ds _ b e)
  | .lst ds, _, h, e => by
    cases h with
    | lst a b => exact .lst (SqL.of a) (DvA.dp ds _ b e)
  | .obj _ _, _, _, e => by cases e
  | .adr _, _, _, e => by cases e
  | .emp, _, _, e => by cases e
theorem DvA.dp {G : Hp} : ∀ (ds : List D) (vs : List V), DvA K Z G vs ds → isPyA ds = true → DpAll K G vs (pyA ds)
  | [], _, h, _ => by cases h; exact .nil
  | d :: ds, _, h, e => by
    cases h with
    | cons a b =>
      have e := Bool.and_eq_true_iff.mp e
      exact .cons (Dv.dp d _ a e.1) (DvA.dp ds _ b e.2)
end
def eqOk (x y : D) : Bool := x.isPy && y.isPy && SeqAt.shaped x.py && SeqAt.shaped y.py
def eqF (x y : D) (s : S) : R D := if eqOk x y = true then .ok (.bl (PyData.eqv x.py y.py)) s else .un
def neqF (x y : D) (s : S) : R D := if eqOk x y = true then .ok (.bl (!PyData.eqv x.py y.py)) s else .un
theorem eqOk_of {x y : D} (h : eqOk x y = true) : x.isPy = true ∧ y.isPy = true ∧ SeqAt.shaped x.py = true ∧ SeqAt.shaped y.py = true := by
  have e1 := Bool.and_eq_true_iff.mp h
  have e2 := Bool.and_eq_true_iff.mp e1.1
  have e3 := Bool.and_eq_true_iff.mp e2.1
  exact ⟨e3.1, e3.2, e2.2, e1.2⟩
theorem c2_eqD : Cmp2 K Z E (rEqD K) eqF := fun V H s x y dx dy Q w rx ry a => by
  unfold eqF at a
  split at a
  case isTrue e =>
    obtain ⟨e1, e2, e3, e4⟩ := eqOk_of e
    exact ⟨dx.py, dy.py, Dp.mono w.sv _ _ (Dv.dp dx x rx e1), Dp.mono w.sv _ _ (Dv.dp dy y ry e2), e3, e4, Ans.pure w (.bl _) a⟩
  case isFalse => exact a.elim
theorem c2_neD : Cmp2 K Z E (rNeD K) neqF := fun V H s x y dx dy Q w rx ry a => by
  unfold neqF at a
  split at a
  case isTrue e =>
    obtain ⟨e1, e2, e3, e4⟩ := eqOk_of e
    exact ⟨dx.py, dy.py, Dp.mono w.sv _ _ (Dv.dp dx x rx e1), Dp.mono w.sv _ _ (Dv.dp dy y ry e2), e3, e4, Ans.pure w (.bl _) a⟩
  case isFalse => exact a.elim
/-- {} -/
theorem c_emp : Cmp K Z E tDNewK (kst .emp) := fun V H σ ρ s Q w p a d hd => a (.ref d) (upd V d (.dK [])) _ (Nx.new w hd) (w.new hd fun _ z => by cases z) (.emp upd_same)
/-- an int constant of a class, read by the class, by an instance -/
theorem c_cval {C : Addr} {mc u : Value} {x : Str} {i : Int} (r : ClX.CRead K C mc) (v : ClX.CVal K C mc x (.int i) u) : Cmp K Z E (ClX.tCVal K (tC (.ref C)) x) (kst (.int i)) := fun V H σ ρ s Q w p a => ⟨C, mc, .int i, u, rfl, r, v, Ans.pure w (.int _) a⟩
def conF (c : Nat) (y : D) (d : D) (s : S) : R D := match d with
  | .obj c' _ => if c' = c then .ok y s else .un
  | _ => .un
theorem c_con {te : TE} {f : Slots → S → R D} {c : Nat} {x : Str} {i : Int} {u : Value} (cl : Cls K (Z.cl c)) (k : Con K (Z.cl c) x (.int i) u) (na : x ∉ nm c) (he : Cmp K Z E te f) : Cmp K Z E (tCon K te x) (b1 (conF c (.int i)) f) := fun V H σ ρ s Q w p a =>
  he V H σ ρ s _ w p (Ans.bind a fun d s1 v V1 H1 n1 w1 r1 a1 => by
    cases r1 with
    | @obj b c' dx fs es h hn hs =>
      replace a1 : Ans K Z E (Dv K Z) (if c' = c then .ok (.int i) s1 else .un) s1 V1 H1 Q := a1
      by_cases ec : c' = c
      · rw [if_pos ec] at a1
        subst ec
        exact ⟨b, Z.cl c', dx, fs, .int i, u, rfl, w1.sv _ _ h, cl, k, lookup_not hn na, Ans.pure w1 (.int _) a1⟩
      · rw [if_neg ec] at a1
        exact a1.elim
    | _ => exact a1.elim)
/-- a, b = x, y -/
def parS (i j : Nat) (fa : Slots → S → R (List D)) (ρ : Slots) (s : S) : R Fl := (fa ρ s).bind fun ds s => match ds with
  | [d, e] => .ok (.nx ((ρ.set i (.fz d)).set j (.fz e))) s
  | _ => .un
theorem cs_par {ua : TA} {fa : Slots → S → R (List D)} (i j : Nat) (h : CmpA K Z E ua fa) : CmpS K Z E (tPar i j ua) (parS i j fa) := fun s0 G0 H0 G H σ ρ s D r a =>
  h G H σ ρ s _ r.w r.p (AnsS.bindF r a fun ds s1 vs V1 H1 n1 w1 e a1 => by
    match ds, e, a1 with
    | [d, d2], .cons (v := v) h1 (.cons (v := v2) h2 .nil), a1 => exact ⟨v, v2, rfl, a1 _ V1 H1 (Same.refl _) (((r.on n1 w1).set h1).set h2)⟩
    | [], _, a1 => exact a1.elim
    | [_], _, a1 => exact a1.elim
    | _ :: _ :: _ :: _, _, a1 => exact a1.elim)
end
end Pp

set_option maxHeartbeats 1000000
/-! PpD: drawn numbers. -/
namespace W2
open PySem PySem.Spec PyProof.Rows L2 Pg Pf Pp
def F_draw (ds : List D) (s : S) : R D := match ds, s with
  | [.adr a, .int t], some k => if a = k.m ∧ 1 ≤ t ∧ t ≤ 1000 ∧ k.b ≤ 1000000 then .dr t fun i => .ok (.int i) (some ⟨k.m, k.c, k.q, k.b + 1⟩) else .un
  | _, _ => .un
theorem ne_tab {o : HO} {H : Hp} {p q : Addr} {u : HO} (h : H p = some o) (k : H q = some u) (d : o ≠ u) : p ≠ q := ne_of h k d
theorem c_draw {K : PySem.W.Frag} {Z : Zn} {E : XK} {ua : TA} {fa : Slots → S → R (List D)} (ha : CmpA K Z E ua fa) : Cmp K Z E (tCallG spDraw ua) (bC F_draw fa) := fun V H σ ρ s Q w p a =>
  ha V H σ ρ s _ w p (Ans.bind a fun ds s1 vs V1 H1 n1 w1 r1 a1 => by
    match ds, s1, r1, w1, a1, n1 with
    | [.adr m, .int t], some k, .cons (.adr _) (.cons (.int _) .nil), w1, a1, n1 =>
      replace a1 : Ans K Z E (Dv K Z) (if m = k.m ∧ 1 ≤ t ∧ t ≤ 1000 ∧ k.b ≤ 1000000 then .dr t fun i => .ok (.int i) (some ⟨k.m, k.c, k.q, k.b + 1⟩) else .un) (some k) V1 H1 Q := a1
      by_cases e : m = k.m ∧ 1 ≤ t ∧ t ≤ 1000 ∧ k.b ≤ 1000000
      · rw [if_pos e] at a1
        obtain ⟨e1, t1, t2, eb⟩ := e
        obtain ⟨⟨n, hm, n0, nb⟩, ⟨cs, hc, cl⟩, ⟨gs, hq, gl⟩, vm, vc, vq, cq⟩ := w1.mr
        have M : MAt V1 H1 k.m k.c k.q k.b := ⟨w1.sv, vm, vc, vq, ⟨n, hm, n0, nb⟩, ⟨cs, hc, cl⟩, ⟨gs, hq, gl⟩, cq⟩
        refine ⟨V1, k.m, k.c, k.q, k.b, t, by rw [e1], M, by omega, t1, t2, fun i H' i0 i1 f M' => a1 i i0 i1 (.int i) V1 H' ?_ ?_ (.int i)⟩
        · have st : ∀ p o, H1 p = some o → (∀ ps, o ≠ .tbl ps) → ¬ inS (some k) p → H' p = some o := fun p o e _ i => f.h p o e (fun z => i (.inl z)) (fun z => i (.inr (.inr z)))
          refine ⟨rfl, Same.refl _, st, fun p e => .inl e, fun p e => ?_⟩
          rcases e with e | ⟨ps, e⟩
          · exact .inl (f.k p e)
          · cases z : H1 p with
            | none => exact .inl z
            | some o =>
              obtain ⟨n', hm', _⟩ := M'.ob
              obtain ⟨gs', hq', _⟩ := M'.gs
              have zz := f.h p o z (ne_of e hm' (by intro z; cases z)) (ne_of e hq' (by intro z; cases z))
              rw [e] at zz
              exact .inr ⟨ps, z.trans zz.symm⟩
        · obtain ⟨n', hm', n0', nb'⟩ := M'.ob
          refine ⟨M'.s, w1.nt, fun p hp => ?_, ⟨n', hm', n0', by show n' ≤ ((k.b + 1 : Nat) : Int); have : n' ≤ ((k.b + 1 : Nat) : Int) := nb'; exact this⟩, M'.cs, M'.gs, vm, vc, vq, cq⟩
          obtain ⟨ps, h1, h2, h3⟩ := w1.tb p hp
          refine ⟨ps, f.h _ _ h1 (ne_of h1 hm (by intro z; cases z)) (ne_of h1 hq (by intro z; cases z)), h2, fun pos cv hcv => ?_⟩
          obtain ⟨c, g1, g2⟩ := h3 pos cv hcv
          exact ⟨c, g1, f.h _ _ g2 (ne_of g2 hm (by intro z; cases z)) (ne_of g2 hq (by intro z; cases z))⟩
      · rw [if_neg e] at a1
        exact a1.elim
    | [.adr m, .int t], none, _, _, a1, _ => exact a1.elim
    | [], _, _, _, a1, _ => exact a1.elim
    | [.adr _], _, _, _, a1, _ => exact a1.elim
    | .adr _ :: .non :: _, _, _, _, a1, _ | .adr _ :: .bl _ :: _, _, _, _, a1, _ | .adr _ :: .str _ :: _, _, _, _, a1, _ | .adr _ :: .tup _ :: _, _, _, _, a1, _ | .adr _ :: .lst _ :: _, _, _, _, a1, _ | .adr _ :: .obj _ _ :: _, _, _, _, a1, _ | .adr _ :: .adr _ :: _, _, _, _, a1, _ | .adr _ :: .emp :: _, _, _, _, a1, _ => exact a1.elim
    | .adr _ :: .int _ :: _ :: _, _, _, _, a1, _ => exact a1.elim
    | .non :: _, _, _, _, a1, _ | .bl _ :: _, _, _, _, a1, _ | .int _ :: _, _, _, _, a1, _ | .str _ :: _, _, _, _, a1, _ | .tup _ :: _, _, _, _, a1, _ | .lst _ :: _, _, _, _, a1, _ | .obj _ _ :: _, _, _, _, a1, _ | .emp :: _, _, _, _, a1, _ => exact a1.elim)
end W2

set_option maxHeartbeats 1000000
namespace W2
open PySem PySem.Spec PyProof.Rows L2 Pg Pf LamX Pp Tab Rul
/-- data of any kind but instances and the like -/
def okD : D → Bool
  | .obj _ _ => false
  | .adr _ => false
  | _ => true
section
variable {K : PySem.W.Frag} {Z : Zn} {T : List (Addr × Str)} {s : S} {V H H' : Hp}
theorem vk_of {v : L2.V} {d : D} (h : Dv K Z V v d) (e : okD d = true) : ∃ o, Vk K V v o := by
  cases h with
  | non => exact ⟨_, .oth (.base .non) (kit_ty (by decide +kernel)) (kit_ty (by decide +kernel))⟩
  | bl b => exact ⟨_, .bl b⟩
  | int i => exact ⟨_, .int i⟩
  | str x => exact ⟨_, .oth (.base (.str x)) (kit_ty (by decide +kernel)) (kit_ty (by decide +kernel))⟩
  | tup h hs =>
    refine ⟨_, .oth (t := .type "tuple") ?_ (kit_ty (by decide +kernel)) (kit_ty (by decide +kernel))⟩
    rcases h with (h | ⟨o, h⟩) | ⟨o, its, n, h, c, _⟩
    · exact .base (.tup h)
    · exact .fTuple h
    · exact .kTuple h c
  | lst h hs => exact ⟨_, .oth (.base (.lst h)) (kit_ty (by decide +kernel)) (kit_ty (by decide +kernel))⟩
  | obj h hn hs => cases e
  | adr a => cases e
  | emp h => exact ⟨_, .oth (.base (.dK h)) (kit_ty (by decide +kernel)) (kit_ty (by decide +kernel))⟩
theorem wd_ext (w : Wd T V H s) (x : ExtN H H') (t : Tabs T H') : Nx s s V H V H' ∧ Wd T V H' s := by
  refine ⟨⟨rfl, Same.refl _, fun p o e n _ => x p o e n, fun p e => .inl e, fun p e => ?_⟩, ⟨fun p o e => x p o (w.sv p o e) fun ps z => w.nt p ps (z ▸ e), w.nt, t, ?_⟩⟩
  · cases z : H p with
    | none => exact .inl z
    | some o =>
      by_cases n : ∃ ps, o = .tbl ps
      · obtain ⟨ps, rfl⟩ := n
        exact .inr ⟨ps, z⟩
      · exact absurd rfl (fre_ne (x p o z fun ps y => n ⟨ps, y⟩) (fun ps y => n ⟨ps, y⟩) e)
  · cases s with
    | none => exact trivial
    | some k =>
      obtain ⟨⟨n, a1, b1⟩, ⟨cs, a2, b2⟩, ⟨gs, a3, b3⟩, a4⟩ := w.mr
      exact ⟨⟨n, x _ _ a1 (fun _ z => by cases z), b1⟩, ⟨cs, x _ _ a2 (fun _ z => by cases z), b2⟩, ⟨gs, x _ _ a3 (fun _ z => by cases z), b3⟩, a4⟩
def F_ok3 (ds : List D) (s : S) : R D := match ds with
  | [x, y, z] => if (okD x && okD y && okD z) = true then .ok (.bl true) s else .un
  | _ => .un
def F_okn (ds : List D) (s : S) : R D := match ds with
  | [.obj 0 _, x, y, z] => if (okD x && okD y && okD z) = true then .ok (.bl true) s else .un
  | _ => .un
def F_oks (ds : List D) (s : S) : R D := match ds with
  | [.obj 0 _, x] => if okD x = true then .ok (.bl true) s else .un
  | _ => .un
def F_okd (_ : List D) (s : S) : R D := .ok (.bl true) s
theorem and3 {a b c : Bool} (h : (a && b && c) = true) : a = true ∧ b = true ∧ c = true := by
  have e1 := Bool.and_eq_true_iff.mp h
  have e2 := Bool.and_eq_true_iff.mp e1.1
  exact ⟨e2.1, e2.2, e1.2⟩
theorem checked_imp : ∀ vs H Q E, spG K Z 3 F_ok3 vs H Q E → spChecked1 K Z.T vs H Q E := by
  rintro vs H Q E ⟨l, V, ds, s, w, r, a⟩
  match ds, r, a with
  | [x, y, z], .cons (v := v1) h1 (.cons (v := v2) h2 (.cons (v := v3) h3 .nil)), a =>
    replace a : Ans K Z E0 (Dv K Z) (if (okD x && okD y && okD z) = true then .ok (.bl true) s else .un) s V H Q := a
    by_cases e : (okD x && okD y && okD z) = true
    · rw [if_pos e] at a
      obtain ⟨e1, e2, e3⟩ := and3 e
      obtain ⟨o1, k1⟩ := vk_of h1 e1
      obtain ⟨o2, k2⟩ := vk_of h2 e2
      obtain ⟨o3, k3⟩ := vk_of h3 e3
      exact ⟨V, v1, v2, v3, o1, o2, o3, rfl, w.sv, w.nt, w.tb, k1, k2, k3, fun H' x t => a _ V H' (wd_ext w x t).1 (wd_ext w x t).2 (.bl true)⟩
    · rw [if_neg e] at a
      exact a.elim
  | [], .nil, _ => cases l
  | [_], .cons _ .nil, _ => cases l
  | [_, _], .cons _ (.cons _ .nil), _ => cases l
  | _ :: _ :: _ :: _ :: _, .cons _ (.cons _ (.cons _ (.cons _ _))), _ => simp at l
theorem names_imp {C : Addr} (hC : Z.cl 0 = C) : ∀ vs H Q E, spG K Z 4 F_okn vs H Q E → spByNames K Z.T C vs H Q E := by
  rintro vs H Q E ⟨l, V, ds, s, w, r, a⟩
  subst hC
  unfold F_okn at a
  split at a
  · rename_i es x y z
    match r with
    | .cons (.obj (a := b) (dx := dx) (fs := fs) h hn hs) (.cons (v := v1) h1 (.cons (v := v2) h2 (.cons (v := v3) h3 .nil))) =>
      by_cases e : (okD x && okD y && okD z) = true
      · rw [if_pos e] at a
        obtain ⟨e1, e2, e3⟩ := and3 e
        obtain ⟨o1, k1⟩ := vk_of h1 e1
        obtain ⟨o2, k2⟩ := vk_of h2 e2
        obtain ⟨o3, k3⟩ := vk_of h3 e3
        exact ⟨V, b, dx, fs, v1, v2, v3, o1, o2, o3, rfl, w.sv, w.nt, w.tb, h, lookup_not hn (by decide +kernel), k1, k2, k3, fun H' x t => a _ V H' (wd_ext w x t).1 (wd_ext w x t).2 (.bl true)⟩
      · rw [if_neg e] at a
        exact a.elim
  · exact a.elim
theorem sq_imp {C : Addr} (hC : Z.cl 0 = C) : ∀ vs H Q E, spG K Z 2 F_oks vs H Q E → spSqRight K Z.T C vs H Q E := by
  rintro vs H Q E ⟨l, V, ds, s, w, r, a⟩
  subst hC
  unfold F_oks at a
  split at a
  · rename_i es x
    match r with
    | .cons (.obj (a := b) (dx := dx) (fs := fs) h hn hs) (.cons (v := v1) h1 .nil) =>
      by_cases e : okD x = true
      · rw [if_pos e] at a
        obtain ⟨o1, k1⟩ := vk_of h1 e
        exact ⟨V, b, dx, fs, v1, o1, rfl, w.sv, w.nt, w.tb, h, lookup_not hn (by decide +kernel), k1, fun H' x t => a _ V H' (wd_ext w x t).1 (wd_ext w x t).2 (.bl true)⟩
      · rw [if_neg e] at a
        exact a.elim
  · exact a.elim
theorem dr_imp : ∀ vs H Q E, spG K Z 0 F_okd vs H Q E → spDblRight Z.T vs H Q E := by
  rintro vs H Q E ⟨l, V, ds, s, w, r, a⟩
  exact ⟨V, List.eq_nil_of_length_eq_zero l, w.sv, w.nt, w.tb, fun H' x t => a _ V H' (wd_ext w x t).1 (wd_ext w x t).2 (.bl true)⟩
/-! ### a way is made -/
mutual
theorem Dp.ext {G G' : Hp} (e : ExtN G G') : ∀ (d : PyData) (v : L2.V), Dp K G v d → Dp K G' v d
  | .none, _, h => by cases h; exact .non
  | .bool _, _, h => by cases h; exact .bl _
  | .int _, _, h => by cases h; exact .int _
  | .str _, _, h => by cases h; exact .str _
  | .list ds, _, h => by
    cases h with
    | lst a b =>
      refine .lst ?_ (DpAll.ext e ds _ b)
      rcases a with (a | ⟨o, a⟩) | a
      · exact .inl (.inl (e _ _ a fun _ z => by cases z))
      · exact .inl (.inr ⟨o, e _ _ a fun _ z => by cases z⟩)
      · exact .inr a
  | .tuple ds, _, h => by
    cases h with
    | tup a b =>
      refine .tup ?_ (DpAll.ext e ds _ b)
      rcases a with (a | ⟨o, a⟩) | a
      · exact .inl (.inl (e _ _ a fun _ z => by cases z))
      · exact .inl (.inr ⟨o, e _ _ a fun _ z => by cases z⟩)
      · exact .inr a
  | .dict _, _, h => by cases h
theorem DpAll.ext {G G' : Hp} (e : ExtN G G') : ∀ (ds : List PyData) (vs : List L2.V), DpAll K G vs ds → DpAll K G' vs ds
  | [], _, h => by cases h; exact .nil
  | d :: ds, _, h => by
    cases h with
    | cons a b => exact .cons (Dp.ext e d _ a) (DpAll.ext e ds _ b)
end
mutual
/-- data without lists -/
def ofPy : PyData → D
  | .none => .non
  | .bool b => .bl b
  | .int i => .int i
  | .str x => .str x
  | .tuple ds => .tup (ofPyA ds)
  | _ => .non
def ofPyA : List PyData → List D
  | [] => []
  | d :: ds => ofPy d :: ofPyA ds
end
mutual
def noL : PyData → Bool
  | .tuple ds => noLA ds
  | .list _ => false
  | .dict _ => false
  | _ => true
def noLA : List PyData → Bool
  | [] => true
  | d :: ds => noL d && noLA ds
end
mutual
theorem dv_py {G : Hp} : ∀ (d : PyData) (v : L2.V), Dp K G v d → noL d = true → Dv K Z G v (ofPy d)
  | .none, _, h, _ => by cases h; exact .non
  | .bool _, _, h, _ => by cases h; exact .bl _
  | .int _, _, h, _ => by cases h; exact .int _
  | .str _, _, h, _ => by cases h; exact .str _
  | .list _, _, _, e => by cases e
  | .tuple ds, _, h, e => by
    cases h with
    | tup a b => exact .tup a (dv_pyA ds _ b e)
  | .dict _, _, _, e => by cases e
theorem dv_pyA {G : Hp} : ∀ (ds : List PyData) (vs : List L2.V), DpAll K G vs ds → noLA ds = true → DvA K Z G vs (ofPyA ds)
  | [], _, h, _ => by cases h; exact .nil
  | d :: ds, _, h, e => by
    cases h with
    | cons a b =>
      have e := Bool.and_eq_true_iff.mp e
      exact .cons (dv_py d _ a e.1) (dv_pyA ds _ b e.2)
end
theorem noL_ints : ∀ ns : List Int, noLA (ns.map PyData.int) = true
  | [] => rfl
  | n :: ns => noL_ints ns
theorem noL_row : ∀ r : List (List Int), noLA (r.map cellD) = true
  | [] => rfl
  | c :: r => by
    show (noLA (c.map PyData.int) && noLA (r.map cellD)) = true
    rw [noL_ints, noL_row r]
    rfl
theorem noL_tab : ∀ t : List (List (List Int)), noLA (t.map rowT) = true
  | [] => rfl
  | r :: t => by
    show (noLA (r.map cellD) && noLA (t.map rowT)) = true
    rw [noL_row, noL_tab t]
    rfl
def wayT (r l k : Nat) : D := ofPy (tabT (tabF r l fun _ _ => rangeI k))
def F_way (ds : List D) (s : S) : R D := match ds with
  | [.int r, .int l, .int k] => if 1 ≤ r ∧ r ≤ 6 ∧ 1 ≤ l ∧ l ≤ 6 ∧ 1 ≤ k ∧ k ≤ 12 then .ok (.obj 0 [.int r, .int l, .int k, wayT r.toNat l.toNat k.toNat]) s else .un
  | _ => .un
theorem wf_fst (r l k t : L2.V) : (wf r l k t).map Prod.fst = nm 0 := by
  unfold wf
  simp only [putF, if_neg nrl, if_neg nrp, if_neg nlp, if_neg nrt, if_neg nlt, if_neg npt]
  rfl
theorem wf_snd (r l k t : L2.V) : (wf r l k t).map Prod.snd = [r, l, k, t] := by
  unfold wf
  simp only [putF, if_neg nrl, if_neg nrp, if_neg nlp, if_neg nrt, if_neg nlt, if_neg npt]
  rfl
theorem way_make {C CE : Addr} (hC : Z.cl 0 = C) : CmpM K Z C (spInitX K C CE) F_way := by
  intro V H s xs ds Q E a dx w rr ha hdx hne ans
  subst hC
  unfold F_way at ans
  split at ans
  · rename_i ri li ki
    match rr with
    | .cons (.int _) (.cons (.int _) (.cons (.int _) .nil)) =>
      by_cases e : 1 ≤ ri ∧ ri ≤ 6 ∧ 1 ≤ li ∧ li ≤ 6 ∧ 1 ≤ ki ∧ ki ≤ 12
      · rw [if_pos e] at ans
        obtain ⟨a1, a2, a3, a4, a5, a6⟩ := e
        have up2 : Same H (upd (upd H dx (.own a)) a (.ins (Z.cl 0) dx [])) := (Same.new hdx).trans (Same.new (by rw [upd_ne hne.symm]; exact ha))
        refine ⟨V, a, dx, .int ri, .int li, .int ki, some ri, some li, some ki, rfl, w.sv.trans up2, w.sv.free ha, upd_same, .int _, .int _, .int _, fun r l k e1 e2 e3 b1 b2 b3 b4 b5 b6 t G' H' sg sh keep new ga hat hdp => ⟨rfl, ?_⟩, fun p e => ?_⟩
        · have er := Option.some.inj e1
          have el := Option.some.inj e2
          have ek := Option.some.inj e3
          subst er el ek
          -- what is known, without tables
          obtain ⟨G2, hG2⟩ : ∃ G2 : Hp, G2 = fun p => match G' p with | some (.tbl _) => none | o => o := ⟨_, rfl⟩
          have g2 : ∀ p o, G2 p = some o → G' p = some o ∧ ∀ ps, o ≠ .tbl ps := fun p o z => by
            rw [hG2] at z
            simp only at z
            split at z
            · cases z
            · rename_i n
              exact ⟨z, fun ps y => n ps (y ▸ z)⟩
          have g3 : ExtN G' G2 := fun p o z n => by
            rw [hG2]
            simp only
            rw [z]
            cases o <;> first | rfl | exact absurd rfl (n _)
          have g2a : G2 a = none := by
            cases z : G2 a with
            | none => rfl
            | some o =>
              have := (g2 a o z).1
              rw [ga] at this
              cases this
          have hk : ∀ p o, H p = some o → H' p = some o := fun p o z => keep p o (up2 p o z) (ne_of_none z ha)
          refine ans (.ref a) (upd G2 a (.ins (Z.cl 0) dx (wf (.int r) (.int l) (.int k) (.ref t)))) H' ⟨rfl, fun p o z => ?_, fun p o z _ _ => hk p o z, fun p z => ?_, fun p z => ?_⟩ ⟨fun p o z => ?_, fun p ps z => ?_, w.tb.ext hk, ?_⟩ ?_
          · have na : p ≠ a := fun y => by
              rw [y, w.sv.free ha] at z
              cases z
            rw [upd_ne na]
            exact g3 _ _ (sg _ _ z) fun ps y => w.nt p ps (y ▸ z)
          · by_cases y : p = a
            · exact .inr (.inl (y ▸ ha))
            · rw [upd_ne y] at z
              have z' : G' p ≠ none := fun q => by
                cases q2 : G2 p with
                | none => exact z q2
                | some o =>
                  rw [(g2 p o q2).1] at q
                  cases q
              rcases new p z' with q | q
              · exact .inl q
              · refine .inr (.inl ?_)
                cases q3 : H p with
                | none => rfl
                | some o =>
                  rw [up2 p o q3] at q
                  cases q
          · cases q : H p with
            | none => exact .inl q
            | some o =>
              by_cases n : ∃ ps, o = .tbl ps
              · obtain ⟨ps, rfl⟩ := n
                exact .inr ⟨ps, q⟩
              · exact absurd rfl (fre_ne (hk p o q) (fun ps y => n ⟨ps, y⟩) z)
          · by_cases y : p = a
            · rw [y, upd_same] at z
              rw [y, hat]
              exact z
            · rw [upd_ne y] at z
              exact sh _ _ (g2 _ _ z).1
          · by_cases y : p = a
            · rw [y, upd_same] at z
              cases z
            · rw [upd_ne y] at z
              exact (g2 _ _ z).2 ps rfl
          · cases s with
            | none => exact trivial
            | some k0 =>
              obtain ⟨⟨n, c1, d1⟩, ⟨cs, c2, d2⟩, ⟨gs, c3, d3⟩, v1, v2, v3, c7⟩ := w.mr
              have no : ∀ p o, H p = some o → (∀ ps, o ≠ .tbl ps) → V p = none → (upd G2 a (.ins (Z.cl 0) dx (wf (.int r) (.int l) (.int k) (.ref t)))) p = none := fun p o z nt v => by
                have na : p ≠ a := ne_of_none z ha
                rw [upd_ne na]
                cases q : G2 p with
                | none => rfl
                | some u =>
                  have q1 := (g2 p u q).1
                  rcases new p (by rw [q1]; simp) with y | y
                  · exact absurd v y
                  · rw [up2 p o z] at y
                    cases y
              exact ⟨⟨n, hk _ _ c1, d1⟩, ⟨cs, hk _ _ c2, d2⟩, ⟨gs, hk _ _ c3, d3⟩, no _ _ c1 (fun _ z => by cases z) v1, no _ _ c2 (fun _ z => by cases z) v2, no _ _ c3 (fun _ z => by cases z) v3, c7⟩
          · refine .obj upd_same (wf_fst _ _ _ _) ?_
            rw [wf_snd]
            refine .cons (.int _) (.cons (.int _) (.cons (.int _) (.cons ?_ .nil)))
            have q : Dv K Z G2 (.ref t) (wayT ((r : Nat) : Int).toNat ((l : Nat) : Int).toNat ((k : Nat) : Int).toNat) := by
              rw [Int.toNat_natCast, Int.toNat_natCast, Int.toNat_natCast]
              exact dv_py _ _ (Dp.ext g3 _ _ hdp) (noL_tab _)
            exact Dv.mono (Same.new g2a) _ _ q
        · exfalso
          have er : ri = ((ri.toNat : Nat) : Int) := by omega
          have el : li = ((li.toNat : Nat) : Int) := by omega
          have ek : ki = ((ki.toNat : Nat) : Int) := by omega
          rw [er, el, ek, part_good (by omega) (by omega) (by omega) (by omega) (by omega) (by omega)] at e
          cases e
      · rw [if_neg e] at ans
        exact ans.elim
  · exact ans.elim
end
end W2

namespace W2
open PySem PySem.Spec PyProof.Rows L2 Pg Pf LamX Pp
def dr0 (t : Int) : Slots → S → R D := bC F_draw (cnsA (vr 1) (cnsA (kst (.int t)) nilA))
def dr1 (t : Int) : Slots → S → R D := b2 plusF (kst (.int 1)) (dr0 t)
def pA : Slots → S → R Fl := (setF 2 (mkL (litL (cnsA (kst (.int 0)) (cnsA (kst (.int 1)) (cnsA (kst (.int 2)) (cnsA (kst (.int 6)) (cnsA (kst (.int 7)) (cnsA (kst (.int 12)) (cnsA (kst (.int 13)) (cnsA (b2 (intF fun i j => .int (i - j)) (kst (.int 0)) (kst (.int 1))) (cnsA (kst (.bl true)) (cnsA (kst (.bl false)) (cnsA (kst .non) (cnsA (kst (.str "3")) (cnsA (bC tupF (cnsA (kst (.int 3)) nilA)) (cnsA (mkL (litL (cnsA (kst (.int 3)) nilA))) nilA)))))))))))))))))
def pB1 : Slots → S → R Fl := (forS (seqI (vr 2)) (gN 3)
    (forS (seqI (vr 2)) (gN 4)
    (ifS (tst (b2 neqF (mkL (lcF (seqI (vr 2)) (gN 5) (bnt (tst (bC (nF 3 (neF F_ok3)) (cnsA (vr 3) (cnsA (vr 4) (cnsA (vr 5) nilA)))))) (vr 5) [5])) (mkL (litL nilA)))) (retS (kst (.bl false))) nxS)))
def pC : Slots → S → R Fl := (setF 6 (bC F_way (cnsA (dr1 6) (cnsA (dr1 6) (cnsA (dr1 12) nilA)))))
def pI : Slots → S → R (List D) := (seqI (b2 plusF (vr 2) (mkL (litL (cnsA (kst .emp) (cnsA (b2 powF (kst (.int 10)) (kst (.int 30))) (cnsA (bC tupF nilA) (cnsA (kst (.str "")) (cnsA (b2 (intF fun i j => .int (i - j)) (kst (.int 0)) (b2 powF (kst (.int 10)) (kst (.int 30)))) (cnsA (kst (.int 3)) (cnsA (kst (.int 4)) (cnsA (kst (.int 5)) nilA))))))))))))
def pDb : Slots → S → R Fl := (seqS (asgS (bC tupF (cnsA (b2 ixF (vr 2) (dr0 14)) (cnsA (dr1 12) nilA))) (gT 2 (gsC (gN 4) (gsC (gN 5) gs0))))
    (seqS (ifS (bor (bnt (tst (bC (nF 4 (neF F_okn)) (cnsA (vr 6) (cnsA (vr 3) (cnsA (vr 4) (cnsA (vr 5) nilA))))))) (bnt (tst (bC (nF 4 (neF F_okn)) (cnsA (vr 6) (cnsA (dr1 6) (cnsA (vr 3) (cnsA (vr 4) nilA)))))))) (retS (kst (.bl false))) nxS)
    (ifS (bor (bnt (tst (bC (nF 4 (neF F_okn)) (cnsA (vr 6) (cnsA (dr1 6) (cnsA (dr1 6) (cnsA (vr 3) nilA))))))) (bnt (tst (bC (nF 2 (neF F_oks)) (cnsA (vr 6) (cnsA (vr 3) nilA)))))) (retS (kst (.bl false))) nxS)))
def pD : Slots → S → R Fl := forS pI (gN 3) pDb
def pR : Slots → S → R Fl := (retS (dnd (bC (nF 0 (neF F_okd)) nilA) (b2 eqF (mkL (litL (cnsA (kst (.int 6)) (cnsA (kst (.int 12)) (cnsA (b1 (conF 0 (.int 6)) (vr 6)) (cnsA (b1 (conF 0 (.int 12)) (vr 6)) nilA)))))) (mkL (repL (litL (cnsA (kst (.int 6)) (cnsA (kst (.int 12)) nilA))) (kst (.int 2)))))))

def odds : List D := [.int 0, .int 1, .int 2, .int 6, .int 7, .int 12, .int 13, .int (-1), .bl true, .bl false, .non, .str "3", .tup [.int 3], .lst [.int 3]]
def r0 (m : Addr) : Slots := [.no, .fz (.adr m), .no, .no, .no, .no, .no]
def r1 (m : Addr) : Slots := [.no, .fz (.adr m), .fz (.lst odds), .no, .no, .no, .no]
def r2 (m : Addr) : Slots := [.no, .fz (.adr m), .fz (.lst odds), .fz (.lst [.int 3]), .fz (.lst [.int 3]), .no, .no]
theorem stepA (m : Addr) (s : S) : pA (r0 m) s = .ok (.nx (r1 m)) s := by kernel_rfl
theorem stepB (m : Addr) (s : S) : pB1 (r1 m) s = .ok (.nx (r2 m)) s := by kernel_rfl

/-- what holds at all ends -/
inductive Al {α : Type} (P : α → S → Prop) : R α → Prop
  | ok {a : α} {s : S} (h : P a s) : Al P (.ok a s)
  | dr {t : Int} {f : Int → R α} (h : ∀ i, 0 ≤ i → i < t → Al P (f i)) : Al P (.dr t f)
theorem Al.bind {α β : Type} {P : α → S → Prop} {P' : β → S → Prop} {r : R α} {k : α → S → R β} (h : Al P r) (c : ∀ a s, P a s → Al P' (k a s)) : Al P' (r.bind k) := by
  induction h with
  | ok h => exact c _ _ h
  | dr h ih => exact .dr fun i h0 h1 => ih i h0 h1
def more : List D := [.emp, .int (10 ^ 30), .tup [], .str "", .int (-(10 ^ 30)), .int 3, .int 4, .int 5]
theorem stepI (m : Addr) (x y z : Sl) (s : S) : pI [.no, .fz (.adr m), .fz (.lst odds), x, y, z, .fz w] s = .ok (odds ++ more) s := by kernel_rfl
theorem draw_eq (m c q : Addr) (b : Nat) (t : Int) (h1 : 1 ≤ t) (h2 : t ≤ 1000) (h3 : b ≤ 1000000) : F_draw [.adr m, .int t] (some ⟨m, c, q, b⟩) = .dr t fun i => .ok (.int i) (some ⟨m, c, q, b + 1⟩) := if_pos ⟨rfl, h1, h2, h3⟩
/-- m is drawn from so often -/
def drd (ρ : Slots) (m c q : Addr) (b : Nat) (a : Fl) (s : S) : Prop := a = .nx ρ ∧ s = some ⟨m, c, q, b⟩
def road (i j k : Int) : D := .obj 0 [.int (1 + i), .int (1 + j), .int (1 + k), wayT (1 + i).toNat (1 + j).toNat (1 + k).toNat]
theorem dr0_eq (x0 : Sl) (ρ : Slots) (m c q : Addr) (b : Nat) (t : Int) (h1 : 1 ≤ t) (h2 : t ≤ 1000) (h3 : b ≤ 1000000) : dr0 t (x0 :: .fz (.adr m) :: ρ) (some ⟨m, c, q, b⟩) = .dr t fun i => .ok (.int i) (some ⟨m, c, q, b + 1⟩) := draw_eq m c q b t h1 h2 h3
theorem dr1_eq (x0 : Sl) (ρ : Slots) (m c q : Addr) (b : Nat) (t : Int) (h1 : 1 ≤ t) (h2 : t ≤ 1000) (h3 : b ≤ 1000000) : dr1 t (x0 :: .fz (.adr m) :: ρ) (some ⟨m, c, q, b⟩) = .dr t fun i => .ok (.int (1 + i)) (some ⟨m, c, q, b + 1⟩) := by
  show (dr0 t (x0 :: .fz (.adr m) :: ρ) (some ⟨m, c, q, b⟩)).bind (fun y s => plusF (.int 1) y s) = _
  rw [dr0_eq x0 ρ m c q b t h1 h2 h3]
  rfl
theorem way_eq (i j k : Int) (s : S) (h : 0 ≤ i ∧ i < 6 ∧ 0 ≤ j ∧ j < 6 ∧ 0 ≤ k ∧ k < 12) : F_way [.int (1 + i), .int (1 + j), .int (1 + k)] s = .ok (road i j k) s := if_pos (by omega)
theorem stepC (m c q : Addr) : Al (fun a s => ∃ i j k, a = .nx [.no, .fz (.adr m), .fz (.lst odds), .fz (.lst [.int 3]), .fz (.lst [.int 3]), .no, .fz (road i j k)] ∧ s = some ⟨m, c, q, 3⟩) (pC (r2 m) (some ⟨m, c, q, 0⟩)) := by
  unfold pC setF bC cnsA nilA r2
  simp (discharger := decide) only [dr1_eq, cnsA, nilA, R.bind]
  refine .dr fun i i0 i1 => .dr fun j j0 j1 => .dr fun k k0 k1 => ?_
  rw [way_eq i j k _ ⟨i0, i1, j0, j1, k0, k1⟩]
  exact .ok ⟨i, j, k, rfl, rfl⟩

theorem okn_eq (i j k : Int) {x y z : D} (s : S) (h1 : okD x = true) (h2 : okD y = true) (h3 : okD z = true) : nF 4 (neF F_okn) [road i j k, x, y, z] s = .ok (.bl true) s := by
  show noex (if (okD x && okD y && okD z) = true then R.ok (D.bl true) s else .un) = _
  rw [h1, h2, h3]
  rfl
theorem oks_eq (i j k : Int) {x : D} (s : S) (h1 : okD x = true) : nF 2 (neF F_oks) [road i j k, x] s = .ok (.bl true) s := by
  show noex (if okD x = true then R.ok (D.bl true) s else .un) = _
  rw [h1]
  rfl
theorem odds_at (i : Int) (h0 : 0 ≤ i) (h1 : i < 14) : ∃ d, okD d = true ∧ ∀ s, ixF (.lst odds) (.int i) s = .ok d s := by
  obtain ⟨n, rfl⟩ : ∃ n : Nat, i = n := ⟨i.toNat, by omega⟩
  have hn : n < 14 := by omega
  match n, hn with
  | 0, _ => exact ⟨_, rfl, fun _ => rfl⟩
  | 1, _ => exact ⟨_, rfl, fun _ => rfl⟩
  | 2, _ => exact ⟨_, rfl, fun _ => rfl⟩
  | 3, _ => exact ⟨_, rfl, fun _ => rfl⟩
  | 4, _ => exact ⟨_, rfl, fun _ => rfl⟩
  | 5, _ => exact ⟨_, rfl, fun _ => rfl⟩
  | 6, _ => exact ⟨_, rfl, fun _ => rfl⟩
  | 7, _ => exact ⟨_, rfl, fun _ => rfl⟩
  | 8, _ => exact ⟨_, rfl, fun _ => rfl⟩
  | 9, _ => exact ⟨_, rfl, fun _ => rfl⟩
  | 10, _ => exact ⟨_, rfl, fun _ => rfl⟩
  | 11, _ => exact ⟨_, rfl, fun _ => rfl⟩
  | 12, _ => exact ⟨_, rfl, fun _ => rfl⟩
  | 13, _ => exact ⟨_, rfl, fun _ => rfl⟩
def r4 (m : Addr) (d : D) (y z : Sl) (r : D) : Slots := [.no, .fz (.adr m), .fz (.lst odds), .fz d, y, z, .fz r]
theorem al_seq {P : Fl → S → Prop} {P1 : Slots → S → Prop} {F1 F2 : Slots → S → R Fl} {ρ : Slots} {s : S} (h : Al (fun a s => ∃ ρ', a = .nx ρ' ∧ P1 ρ' s) (F1 ρ s)) (c : ∀ ρ' s', P1 ρ' s' → Al P (F2 ρ' s')) : Al P (seqS F1 F2 ρ s) :=
  Al.bind h fun a s ⟨ρ', e, p⟩ => by
    subst e
    exact c ρ' s p
theorem vr4 (n : Nat) (m : Addr) (d : D) (y z : D) (r : D) (s : S) : vr 2 (r4 m d (.fz y) (.fz z) r) s = .ok (.lst odds) s ∧ vr 3 (r4 m d (.fz y) (.fz z) r) s = .ok d s ∧ vr 4 (r4 m d (.fz y) (.fz z) r) s = .ok y s ∧ vr 5 (r4 m d (.fz y) (.fz z) r) s = .ok z s ∧ vr 6 (r4 m d (.fz y) (.fz z) r) s = .ok r s := ⟨rfl, rfl, rfl, rfl, rfl⟩
theorem dr0_r4 (m c q : Addr) (b : Nat) (t : Int) (d r : D) (y z : Sl) (h1 : 1 ≤ t) (h2 : t ≤ 1000) (h3 : b ≤ 1000000) : dr0 t (r4 m d y z r) (some ⟨m, c, q, b⟩) = .dr t fun i => .ok (.int i) (some ⟨m, c, q, b + 1⟩) := dr0_eq _ _ m c q b t h1 h2 h3
theorem dr1_r4 (m c q : Addr) (b : Nat) (t : Int) (d r : D) (y z : Sl) (h1 : 1 ≤ t) (h2 : t ≤ 1000) (h3 : b ≤ 1000000) : dr1 t (r4 m d y z r) (some ⟨m, c, q, b⟩) = .dr t fun i => .ok (.int (1 + i)) (some ⟨m, c, q, b + 1⟩) := dr1_eq _ _ m c q b t h1 h2 h3
theorem body (m c q : Addr) (b : Nat) (hb : b ≤ 100000) (d : D) (hd : okD d = true) (y z : Sl) (i j k : Int) : Al (fun a s => ∃ y z, a = .nx (r4 m d y z (road i j k)) ∧ s = some ⟨m, c, q, b + 5⟩) (pDb (r4 m d y z (road i j k)) (some ⟨m, c, q, b⟩)) := by
  unfold pDb
  refine al_seq (P1 := fun ρ' s' => ∃ y z, okD y = true ∧ okD z = true ∧ ρ' = r4 m d (.fz y) (.fz z) (road i j k) ∧ s' = some ⟨m, c, q, b + 2⟩) ?_ ?_
  · show Al _ ((R.bind (R.bind (R.bind (R.ok (.lst odds) _) fun x s => R.bind (dr0 14 (r4 m d y z (road i j k)) s) fun y s => ixF x y s) fun x s => R.bind (R.bind (dr1 12 (r4 m d y z (road i j k)) s) fun x s => R.ok [x] s) fun xs s => R.ok (x :: xs) s) tupF).bind _)
    simp only [R.bind]
    rw [dr0_r4 m c q b 14 d _ y z (by decide) (by decide) (by omega)]
    refine .dr fun i1 h0 h1 => ?_
    obtain ⟨y', e1, e2⟩ := odds_at i1 h0 h1
    simp only [R.bind]
    rw [e2]
    simp only [R.bind]
    rw [dr1_r4 m c q (b + 1) 12 d _ y z (by decide) (by decide) (by omega)]
    refine .dr fun i2 g0 g1 => ?_
    exact .ok ⟨_, rfl, y', .int (1 + i2), e1, rfl, rfl, rfl⟩
  rintro ρ' s' ⟨y1, z1, hy, hz, rfl, rfl⟩
  have al : allS (r4 m d (.fz y1) (.fz z1) (road i j k)) = r4 m d (.fz y1) (.fz z1) (road i j k) := rfl
  have v := fun s => vr4 0 m d y1 z1 (road i j k) s
  refine al_seq (P1 := fun ρ' s' => ρ' = r4 m d (.fz y1) (.fz z1) (road i j k) ∧ s' = some ⟨m, c, q, b + 3⟩) ?_ ?_
  · unfold ifS
    rw [al]
    have e1 : bnt (tst (bC (nF 4 (neF F_okn)) (cnsA (vr 6) (cnsA (vr 3) (cnsA (vr 4) (cnsA (vr 5) nilA)))))) (r4 m d (.fz y1) (.fz z1) (road i j k)) (some ⟨m, c, q, b + 2⟩) = .ok false (some ⟨m, c, q, b + 2⟩) := by
      unfold bnt tst bC cnsA nilA
      simp only [(v _).1, (v _).2.1, (v _).2.2.1, (v _).2.2.2.1, (v _).2.2.2.2, R.bind, okn_eq i j k _ hd hy hz, bl']
      rfl
    have e2 : bnt (tst (bC (nF 4 (neF F_okn)) (cnsA (vr 6) (cnsA (dr1 6) (cnsA (vr 3) (cnsA (vr 4) nilA)))))) (r4 m d (.fz y1) (.fz z1) (road i j k)) (some ⟨m, c, q, b + 2⟩) = .dr 6 fun _ => .ok false (some ⟨m, c, q, b + 3⟩) := by
      unfold bnt tst bC
      simp only [cnsA, nilA, (v _).1, (v _).2.1, (v _).2.2.1, (v _).2.2.2.1, (v _).2.2.2.2, R.bind]
      rw [dr1_r4 m c q (b + 2) 6 d _ _ _ (by decide) (by decide) (by omega)]
      simp only [R.bind, okn_eq i j k _ (rfl : okD (.int _) = true) hd hy, bl']
      rfl
    unfold bor
    rw [e1]
    simp only [R.bind]
    rw [if_neg Bool.false_ne_true, e2]
    refine .dr fun i1 _ _ => ?_
    exact .ok ⟨_, rfl, rfl, rfl⟩
  rintro ρ' s' ⟨rfl, rfl⟩
  unfold ifS
  rw [al]
  have e1 : bnt (tst (bC (nF 4 (neF F_okn)) (cnsA (vr 6) (cnsA (dr1 6) (cnsA (dr1 6) (cnsA (vr 3) nilA)))))) (r4 m d (.fz y1) (.fz z1) (road i j k)) (some ⟨m, c, q, b + 3⟩) = .dr 6 fun _ => .dr 6 fun _ => .ok false (some ⟨m, c, q, b + 5⟩) := by
    unfold bnt tst bC
    simp only [cnsA, nilA, (v _).1, (v _).2.1, (v _).2.2.1, (v _).2.2.2.1, (v _).2.2.2.2, R.bind]
    rw [dr1_r4 m c q (b + 3) 6 d _ _ _ (by decide) (by decide) (by omega)]
    simp only [R.bind]
    rw [dr1_r4 m c q (b + 3 + 1) 6 d _ _ _ (by decide) (by decide) (by omega)]
    simp only [R.bind, (v _).2.1, okn_eq i j k _ (rfl : okD (.int _) = true) (rfl : okD (.int _) = true) hd, bl']
    rfl
  have e2 : ∀ s, bnt (tst (bC (nF 2 (neF F_oks)) (cnsA (vr 6) (cnsA (vr 3) nilA)))) (r4 m d (.fz y1) (.fz z1) (road i j k)) s = .ok false s := fun s => by
    unfold bnt tst bC cnsA nilA
    simp only [(v _).2.1, (v _).2.2.2.2, R.bind, oks_eq i j k _ hd, bl']
    rfl
  unfold bor
  rw [e1]
  refine .dr fun i1 _ _ => .dr fun i2 _ _ => ?_
  simp only [R.bind]
  rw [if_neg Bool.false_ne_true, e2]
  exact .ok ⟨_, _, rfl, rfl⟩
def r5 (m : Addr) (x y z : Sl) (r : D) : Slots := [.no, .fz (.adr m), .fz (.lst odds), x, y, z, .fz r]
theorem loop2 (m c q : Addr) (i j k : Int) : ∀ (ds : List D), (∀ d ∈ ds, okD d = true) → ∀ (b : Nat) (x y z : Sl), b + 5 * ds.length ≤ 100000 → Al (fun a s => ∃ x y z b', a = .nx (r5 m x y z (road i j k)) ∧ s = some ⟨m, c, q, b'⟩) (forL (gN 3) pDb ds (r5 m x y z (road i j k)) (some ⟨m, c, q, b⟩))
  | [], _, b, x, y, z, _ => .ok ⟨x, y, z, b, rfl, rfl⟩
  | d :: ds, h, b, x, y, z, hb => by
    rw [List.length_cons] at hb
    show Al _ ((pDb (r4 m d y z (road i j k)) (some ⟨m, c, q, b⟩)).bind (forK fun ρ s => forL (gN 3) pDb ds ρ s))
    refine Al.bind (body m c q b (by omega) d (h d List.mem_cons_self) y z i j k) fun a s ⟨y', z', e1, e2⟩ => ?_
    subst e1 e2
    exact loop2 m c q i j k ds (fun d hd => h d (List.mem_cons_of_mem _ hd)) (b + 5) (.fz d) y' z' (by omega)
theorem stepR (m : Addr) (x y z : Sl) (i j k : Int) (s : S) : pR (r5 m x y z (road i j k)) s = .ok (.rt (.bl true)) s := by kernel_rfl
theorem all_ok : ∀ d ∈ odds ++ more, okD d = true := by
  have h : (odds ++ more).all okD = true := by kernel_rfl
  exact fun d hd => List.all_eq_true.mp h d hd
def q_law : Slots → S → R Fl := seqS pA (seqS pB1 (seqS pC (seqS pD pR)))
def isTrue' (fl : Fl) (_ : S) : Prop := fl = .rt (.bl true)
theorem law_true (m c q : Addr) : Al isTrue' (q_law (r0 m) (some ⟨m, c, q, 0⟩)) := by
  unfold q_law
  refine al_seq (P1 := fun ρ s => ρ = r1 m ∧ s = some ⟨m, c, q, 0⟩) (by rw [stepA]; exact .ok ⟨_, rfl, rfl, rfl⟩) ?_
  rintro _ _ ⟨rfl, rfl⟩
  refine al_seq (P1 := fun ρ s => ρ = r2 m ∧ s = some ⟨m, c, q, 0⟩) (by rw [stepB]; exact .ok ⟨_, rfl, rfl, rfl⟩) ?_
  rintro _ _ ⟨rfl, rfl⟩
  refine al_seq (P1 := fun ρ s => ∃ i j k, ρ = [.no, .fz (.adr m), .fz (.lst odds), .fz (.lst [.int 3]), .fz (.lst [.int 3]), .no, .fz (road i j k)] ∧ s = some ⟨m, c, q, 3⟩) ?_ ?_
  · have h := stepC m c q
    refine (show ∀ {P P' : Fl → S → Prop} {r : R Fl}, Al P r → (∀ a s, P a s → P' a s) → Al P' r from fun h c => by
      induction h with
      | ok h => exact .ok (c _ _ h)
      | dr h ih => exact .dr fun i h0 h1 => ih i h0 h1) h fun a s ⟨i, j, k, e1, e2⟩ => ⟨_, e1, i, j, k, rfl, e2⟩
  rintro _ _ ⟨i, j, k, rfl, rfl⟩
  refine al_seq (P1 := fun ρ s => ∃ x y z, ρ = r5 m x y z (road i j k)) ?_ ?_
  · unfold pD forS
    rw [stepI]
    refine (show ∀ {P P' : Fl → S → Prop} {r : R Fl}, Al P r → (∀ a s, P a s → P' a s) → Al P' r from fun h c => by
      induction h with
      | ok h => exact .ok (c _ _ h)
      | dr h ih => exact .dr fun i h0 h1 => ih i h0 h1) (loop2 m c q i j k (odds ++ more) all_ok 3 (.fz (.lst [.int 3])) (.fz (.lst [.int 3])) .no (by decide)) fun a s ⟨x, y, z, b', e1, _⟩ => ⟨_, e1, x, y, z, rfl⟩
  rintro _ s ⟨x, y, z, rfl⟩
  rw [stepR]
  exact .ok rfl
end W2

namespace W2
open PySem PySem.Spec PyProof.Rows L2 Pg Pf LamX Pp
abbrev s_law : Stmt := top 26
abbrev N_law : List Str := ["_law_script", "_law_m", "_law_odds", "_law_east", "_law_west", "_law_spots", "_law_road"]
theorem sc_law : FnScope N_law ["_law_script"] (defScope s_law) := ⟨rfl, rfl, rfl, by decide +kernel, rfl, by decide +kernel, by decide +kernel⟩
@[irreducible] def p_law : Slots → S → R Fl := q_law
theorem p_law_eq : p_law = q_law := by unfold p_law; rfl
def spLaw (K : PySem.W.Frag) (T : List (Addr × Str)) : Sp := fun vs H Q _ => ∃ (a : Addr) (ns : List Int), vs = [.ref a] ∧ SqL K H a (ns.map V.int) ∧ ns.length ≤ 63 ∧ Tabs T H ∧ ∀ H', Q (.bl true) H'
theorem al_ans {K : PySem.W.Frag} {Z : Zn} {E : XK} {s0 : S} {G0 H0 G : Hp} {D : Ends} {r : R Fl} (h : Al isTrue' r) (q : ∀ H, D.rt (.bl true) H) : AnsS K Z E r s0 G0 H0 G D := by
  induction h with
  | ok h =>
    have e := h
    unfold isTrue' at e
    subst e
    intro v V' H' n w r
    cases r
    exact q H'
  | dr h ih => exact fun i h0 h1 => ih i h0 h1
def slots0 (m : Addr) : Slots := r0 m
theorem law_true' (m c q : Addr) : Al isTrue' (p_law (slots0 m) (some ⟨m, c, q, 0⟩)) := by
  rw [p_law_eq]
  exact law_true m c q
section
variable {P : Program} {w : World} {K : PySem.W.Frag} {mg : Str → Option Value} {base : Heap} {f C CE fI : Addr} {fd fdI : FuncData} {T : List (Addr × Str)} {mc u6 u12 w6 w12 : Value}
theorem ok_law (B : Bt mg) (cB : CalG P w K mg base 3 "_law_begun" (spBegun K)) (cD : CalG P w K mg base 3 "_law_draw" spDraw) (c3 : CalG P w K mg base 9 "_law_checked" (spChecked1 K T)) (cn : CalG P w K mg base 9 "_law_by_names" (spByNames K T C)) (cs : CalG P w K mg base 10 "_law_square_right" (spSqRight K T C)) (cd : CalG P w K mg base 10 "_law_doubled_right" (spDblRight T))
    (mk : Mk K C fI) (okI : FnOk P w K mg base (L2.CX P w) 4 fI fdI ["self", "rights", "lefts", "places"] (spInitX K C CE)) (bI : Binds K fdI ["self", "rights", "lefts", "places"] []) (mC : mg "Way" = some (.ref C))
    (rd : ClX.CRead K C mc) (v6 : ClX.CVal K C mc "MAX_WALKERS" (.int 6) u6) (v12 : ClX.CVal K C mc "MAX_PLACES" (.int 12) u12) (cl : Cls K C) (k6 : Con K C "MAX_WALKERS" (.int 6) w6) (k12 : Con K C "MAX_PLACES" (.int 12) w12)
    (F : Fun K "law" "law" s_law f fd) : FnG P w K mg base 11 f fd ["_law_script"] (spLaw K T) := by
  let Z : Zn := ⟨T, fun _ => C⟩
  have cCk : CalG P w K mg base 9 "_law_checked" (spG K Z 3 F_ok3) := CalG.imp c3 checked_imp
  have cBn : CalG P w K mg base 9 "_law_by_names" (spG K Z 4 F_okn) := CalG.imp cn (names_imp rfl)
  have cSq : CalG P w K mg base 10 "_law_square_right" (spG K Z 2 F_oks) := CalG.imp cs (sq_imp rfl)
  have cDr : CalG P w K mg base 10 "_law_doubled_right" (spG K Z 0 F_okd) := CalG.imp cd dr_imp
  have cW : CmpM K Z C (spInitX K C CE) F_way := way_make rfl
  refine okG F sc_law (fun vs H Q E h => ?_) (fun cdv A outer s H vs Q E hr hgd h => ?_)
  · obtain ⟨a, ns, rfl, _⟩ := h
    rfl
  obtain ⟨a, ns, rfl, hS, hl, tT, fin⟩ := h
  have nd := sc_law.nd
  refine ⟨_, pss_cons (ps_set (i := 1) nd rfl (Or.inl rfl) (pe_cG cB hr (by decide) hgd rfl (pa_cons (pv 0) pa_nil)))
    (pss_cons (ps_set (i := 2) nd rfl (Or.inl rfl) (pe_lst (pa_cons pe_int (pa_cons pe_int (pa_cons pe_int (pa_cons pe_int (pa_cons pe_int (pa_cons pe_int (pa_cons pe_int (pa_cons (pe_op op_sub pe_int pe_int) (pa_cons pe_bl (pa_cons pe_bl (pa_cons pe_non (pa_cons pe_str (pa_cons (pe_tup (pa_cons pe_int pa_nil)) (pa_cons (pe_lst (pa_cons pe_int pa_nil)) pa_nil))))))))))))))))
    (pss_cons (ps_for PassesOwn.never rfl (pi_seq (pv 2)) (pg_name (i := 3) nd rfl (Or.inr rfl))
    (pss_one (ps_for PassesOwn.never rfl (pi_seq (pv 2)) (pg_name (i := 4) nd rfl (Or.inr rfl))
    (pss_one (ps_if (pt_cmpR (op_neD hr.units) (pe_lc (own := [("_law_spots", 5)]) rfl nd (pi_seq (pv 2)) (blkOk_by (N := N_law) (sc := defScope s_law) (by decide +kernel)) (fun _ _ _ _ _ => (pg_name (i := 5) nd rfl (Or.inl rfl))) (fun _ _ _ _ _ => pts_one (pt_not (pt_val (pe_cG cCk hr (by decide) hgd rfl (pa_cons (pv 3) (pa_cons (pv 4) (pa_cons (pv 5) pa_nil))))))) (fun _ _ _ _ _ => (pv 5))) (pe_lst pa_nil) (nomark _)) (pss_one (ps_ret pe_bl)) pss_nil)))))
    (pss_cons (ps_set (i := 6) nd rfl (Or.inl rfl) (pe_make mk okI (hr.mono (by decide)) rfl mC bI .nil passX0 (pa_cons (pe_op op_plus pe_int (pe_cG cD hr (by decide) hgd rfl (pa_cons (pv 1) (pa_cons pe_int pa_nil)))) (pa_cons (pe_op op_plus pe_int (pe_cG cD hr (by decide) hgd rfl (pa_cons (pv 1) (pa_cons pe_int pa_nil)))) (pa_cons (pe_op op_plus pe_int (pe_cG cD hr (by decide) hgd rfl (pa_cons (pv 1) (pa_cons pe_int pa_nil)))) pa_nil)))))
    (pss_cons (ps_for PassesOwn.never rfl (pi_seq (pe_op op_plus (pv 2) (pe_lst (pa_cons pe_dnewK (pa_cons (pe_op op_pow pe_int pe_int) (pa_cons (pe_tup pa_nil) (pa_cons pe_str (pa_cons (pe_op op_sub pe_int (pe_op op_pow pe_int pe_int)) (pa_cons pe_int (pa_cons pe_int (pa_cons pe_int pa_nil))))))))))) (pg_name (i := 3) nd rfl (Or.inr rfl))
    (pss_cons (ps_asg (pe_tup (pa_cons (pe_ix ix_seq (pv 2) (pe_cG cD hr (by decide) hgd rfl (pa_cons (pv 1) (pa_cons pe_int pa_nil))) (fun _ _ => rfl)) (pa_cons (pe_op op_plus pe_int (pe_cG cD hr (by decide) hgd rfl (pa_cons (pv 1) (pa_cons pe_int pa_nil)))) pa_nil))) (pg_tup rfl (pgs_cons (pg_name (i := 4) nd rfl (Or.inr rfl)) (pgs_cons (pg_name (i := 5) nd rfl (Or.inl rfl)) pgs_nil))))
    (pss_cons (ps_if (PW.pt (pw_or (pt_not (pt_val (pe_cG cBn hr (by decide) hgd rfl (pa_cons (pv 6) (pa_cons (pv 3) (pa_cons (pv 4) (pa_cons (pv 5) pa_nil))))))) (pw_or1 (pt_not (pt_val (pe_cG cBn hr (by decide) hgd rfl (pa_cons (pv 6) (pa_cons (pe_op op_plus pe_int (pe_cG cD hr (by decide) hgd rfl (pa_cons (pv 1) (pa_cons pe_int pa_nil)))) (pa_cons (pv 3) (pa_cons (pv 4) pa_nil)))))))))) (pss_one (ps_ret pe_bl)) pss_nil)
    (pss_one (ps_if (PW.pt (pw_or (pt_not (pt_val (pe_cG cBn hr (by decide) hgd rfl (pa_cons (pv 6) (pa_cons (pe_op op_plus pe_int (pe_cG cD hr (by decide) hgd rfl (pa_cons (pv 1) (pa_cons pe_int pa_nil)))) (pa_cons (pe_op op_plus pe_int (pe_cG cD hr (by decide) hgd rfl (pa_cons (pv 1) (pa_cons pe_int pa_nil)))) (pa_cons (pv 3) pa_nil))))))) (pw_or1 (pt_not (pt_val (pe_cG cSq hr (by decide) hgd rfl (pa_cons (pv 6) (pa_cons (pv 3) pa_nil)))))))) (pss_one (ps_ret pe_bl)) pss_nil)))))
    (pss_one (ps_ret (pe_and (pe_cG0 cDr hr (by decide) hgd rfl) (pe_one (pe_cmpR (op_eqD hr.units) (pe_lst (pa_cons (ClX.pe_cval (pe_glob (v := .ref C) (by rfl) mC rfl)) (pa_cons (ClX.pe_cval (pe_glob (v := .ref C) (by rfl) mC rfl)) (pa_cons (pe_con (pv 6) rfl) (pa_cons (pe_con (pv 6) rfl) pa_nil))))) (pe_op op_rep (pe_lst (pa_cons pe_int (pa_cons pe_int pa_nil))) pe_int) (nomark _)))))))))), ?_⟩
  refine ⟨_, rfl, a, ns, rfl, hS, hl, fun m c q H1 s1 M => ?_⟩
  have cm : CmpS K Z E0 _ q_law := (cs_seq (cs_setF 2 (c_mkL (cl_lit (c_cons (c_c fun _ => .int _) (c_cons (c_c fun _ => .int _) (c_cons (c_c fun _ => .int _) (c_cons (c_c fun _ => .int _) (c_cons (c_c fun _ => .int _) (c_cons (c_c fun _ => .int _) (c_cons (c_c fun _ => .int _) (c_cons (c_op c2_sub (c_c fun _ => .int _) (c_c fun _ => .int _)) (c_cons (c_c fun _ => .bl _) (c_cons (c_c fun _ => .bl _) (c_cons (c_c fun _ => .non) (c_cons (c_c fun _ => .str _) (c_cons (c_tup (c_cons (c_c fun _ => .int _) c_nil)) (c_cons (c_mkL (cl_lit (c_cons (c_c fun _ => .int _) c_nil))) c_nil)))))))))))))))))
    (cs_seq (cs_for (ci_seq (c_var 2)) (cg_name 3)
    (cs_for (ci_seq (c_var 2)) (cg_name 4)
    (cs_if (c_tT (c_op c2_neD (c_mkL (cl_lc (ci_seq (c_var 2)) (cg_name 5) (by decide) (c_not (c_tB (c_callG (c_cons (c_var 3) (c_cons (c_var 4) (c_cons (c_var 5) c_nil)))))) (c_var 5))) (c_mkL (cl_lit c_nil)))) (cs_ret (c_c fun _ => .bl _)) cs_next)))
    (cs_seq (cs_setF 6 (c_make cW (c_cons (c_op c2_plus (c_c fun _ => .int _) (c_draw (c_cons (c_var 1) (c_cons (c_c fun _ => .int _) c_nil)))) (c_cons (c_op c2_plus (c_c fun _ => .int _) (c_draw (c_cons (c_var 1) (c_cons (c_c fun _ => .int _) c_nil)))) (c_cons (c_op c2_plus (c_c fun _ => .int _) (c_draw (c_cons (c_var 1) (c_cons (c_c fun _ => .int _) c_nil)))) c_nil)))))
    (cs_seq (cs_for (ci_seq (c_op c2_plus (c_var 2) (c_mkL (cl_lit (c_cons c_emp (c_cons (c_op c2_pow (c_c fun _ => .int _) (c_c fun _ => .int _)) (c_cons (c_tup c_nil) (c_cons (c_c fun _ => .str _) (c_cons (c_op c2_sub (c_c fun _ => .int _) (c_op c2_pow (c_c fun _ => .int _) (c_c fun _ => .int _))) (c_cons (c_c fun _ => .int _) (c_cons (c_c fun _ => .int _) (c_cons (c_c fun _ => .int _) c_nil)))))))))))) (cg_name 3)
    (cs_seq (cs_asg (c_tup (c_cons (c_op c2_ix (c_var 2) (c_draw (c_cons (c_var 1) (c_cons (c_c fun _ => .int _) c_nil)))) (c_cons (c_op c2_plus (c_c fun _ => .int _) (c_draw (c_cons (c_var 1) (c_cons (c_c fun _ => .int _) c_nil)))) c_nil))) (cg_tup (cg_cons (cg_name 4) (cg_cons (cg_name 5) cg_nil))))
    (cs_seq (cs_if (c_or (c_not (c_tB (c_callG (c_cons (c_var 6) (c_cons (c_var 3) (c_cons (c_var 4) (c_cons (c_var 5) c_nil))))))) (c_not (c_tB (c_callG (c_cons (c_var 6) (c_cons (c_op c2_plus (c_c fun _ => .int _) (c_draw (c_cons (c_var 1) (c_cons (c_c fun _ => .int _) c_nil)))) (c_cons (c_var 3) (c_cons (c_var 4) c_nil)))))))) (cs_ret (c_c fun _ => .bl _)) cs_next)
    (cs_if (c_or (c_not (c_tB (c_callG (c_cons (c_var 6) (c_cons (c_op c2_plus (c_c fun _ => .int _) (c_draw (c_cons (c_var 1) (c_cons (c_c fun _ => .int _) c_nil)))) (c_cons (c_op c2_plus (c_c fun _ => .int _) (c_draw (c_cons (c_var 1) (c_cons (c_c fun _ => .int _) c_nil)))) (c_cons (c_var 3) c_nil))))))) (c_not (c_tB (c_callG (c_cons (c_var 6) (c_cons (c_var 3) c_nil)))))) (cs_ret (c_c fun _ => .bl _)) cs_next))))
    (cs_ret (c_andV (c_callG c_nil) (c_op c2_eqD (c_mkL (cl_lit (c_cons (c_cval rd v6) (c_cons (c_cval rd v12) (c_cons (c_con cl k6 (by decide +kernel) (c_var 6)) (c_cons (c_con cl k12 (by decide +kernel) (c_var 6)) c_nil)))))) (c_mkL (cl_rep (cl_lit (c_cons (c_c fun _ => .int _) (c_cons (c_c fun _ => .int _) c_nil))) (c_c fun _ => .int _))))))))))
  rw [← p_law_eq] at cm
  refine cm (some ⟨m, c, q, 0⟩) (fun _ => none) H1 (fun _ => none) H1 _ (slots0 m) (some ⟨m, c, q, 0⟩) _ ⟨Nx.refl _ _ _, ⟨fun _ _ e => (by cases e), fun _ _ e => (by cases e), tT.ext s1, M.ob, M.cs, M.gs, rfl, rfl, rfl, M.cq⟩, ⟨fun i d e => ?_, fun i o e => ?_, rfl⟩, fun i o _ e _ => ?_, fun i _ o _ _ _ e _ _ _ => ?_, rfl⟩ (al_ans (law_true' m c q) fin)
  · match i, e with
    | 0, e => cases e
    | 1, e =>
      cases e
      exact ⟨.ref m, rfl, .adr m⟩
    | 2, e => cases e
    | 3, e => cases e
    | 4, e => cases e
    | 5, e => cases e
    | 6, e => cases e
    | n + 7, e => cases e
  all_goals
    match i, e with
    | 0, e => cases e
    | 1, e => cases e
    | 2, e => cases e
    | 3, e => cases e
    | 4, e => cases e
    | 5, e => cases e
    | 6, e => cases e
    | n + 7, e => cases e
end
end W2

namespace W2
open PySem PySem.Spec PyProof.Rows L2 Pg Pf LamX
theorem code_hid {h g : Heap} {c P : Addr} (z : PySem.W.CodeHd h c P) (k : ∀ ob vs, h.get? c = some ob → ob.data = .fields vs → vs[11]? = some (.ref P) → g.get? c = some ob) : PySem.W.CodeHd g c P := by
  obtain ⟨ob, vs, f1, f2, f3, f4, f5, f6, f7, z1, z2, z3, z4, rest⟩ := z
  exact ⟨ob, vs, f1, f2, f3, f4, f5, f6, f7, k ob vs z1 z3 z4, z2, z3, z4, rest⟩
/-- walkG for a law that makes lambdas: the code objects of cs have tables that are empty so far -/
theorem walkGT {l : PySem.W.OpenLaw} {n k : Nat} {q : Program} {loose : List Str} {XP : (Str → Option Value) → Heap → Prop} {YP : World → Heap → Prop} {d : DefRec} {K : Params → PySem.W.Frag} {sp : PySem.W.Frag → List (Addr × Str) → Sp} {x : Str}
    (most : l.most = some n) (fits : n ≤ sizeLine) (plain : d.params.defaults = []) (room : Room k callerA) (free : callerA.guards = some []) (inY : ∀ (w : World) (h : Heap), YP w h → (K w.params).In h)
    (F : ∀ (w : World) (mg : Str → Option Value) (fa : Addr) (h : Heap), (K w.params).In h → h.Ns mainGlobals mg → mg d.name = some (.ref fa) → ∃ (fd : FuncData) (cs : List (Addr × Addr)) (T : List (Addr × Str)),
      (∀ (s : Shared) (u : Value), BindsTo s fd ⟨[u], []⟩ [(x, u)]) ∧ (∀ p ∈ cs, (K w.params).lookup p.2 = none) ∧ (∀ p ∈ cs, ∃ y : Str, ((recsOf q).any fun r => r.name == y) = true ∧ PySem.W.tabIn (K w.params) y = some p) ∧ (∀ p ∈ T, p.1 ∈ cs.map Prod.snd) ∧
      ∀ base : Heap, (K w.params).In base → base.Ns mainGlobals mg → (∀ p ∈ cs, TabB base mg p.1 p.2) → FnG l.prog w (K w.params) mg base k fa fd [x] (sp (K w.params) T))
    (ask : ∀ (K : PySem.W.Frag) (T : List (Addr × Str)) (H : Hp) (a : Addr) (ns : List Int), ns.length ≤ n → Tabs T H → SqL K H a (ns.map V.int) → sp K T [.ref a] H (fun v _ => v = .bl true) E0) :
    PySem.W.WalkO q loose XP YP l.row.toRowW d [] (fun f vs => PySem.call f vs) := by
  refine Att.attach_call most plain fun w t0 t1 mg mb fa ob pm cd doc a us ns top Y h1 h2 h3 named obj his len nogen => ?_
  have kin := inY w _ Y
  obtain ⟨fd, cs, T, binds, noK, rec, tin, kept⟩ := F w mg fa _ kin top.T.g named
  have cod : ∀ p ∈ cs, PySem.W.CodeHd t1.heap p.1 p.2 ∧ t1.heap.get? p.2 = some { cls := .none, data := .fields #[] } := fun p hp => by
    obtain ⟨y, e1, e2⟩ := rec p hp
    have e3 : ((recsOf q).find? fun r => r.name == y).isSome = true := by rw [List.find?_isSome]; exact List.any_eq_true.mp e1
    obtain ⟨dr, e4⟩ := Option.isSome_iff_exists.mp e3
    exact PySem.W.tab_of (c := p.1) (P := p.2) top.T kin e4 e2
  have atP : ∀ b, b ∈ cs.map Prod.snd → t1.heap.get? b = some { cls := .none, data := .fields #[] } ∧ (K w.params).lookup b = none := fun b hb => by
    obtain ⟨p, hp, rfl⟩ := List.mem_map.mp hb
    exact ⟨(cod p hp).2, noK p hp⟩
  have rel := vals_ints his
  obtain ⟨S, hS⟩ : ∃ S : Obj, S = { cls := .type "list", data := .seq us.toArray } := ⟨_, rfl⟩
  rw [← hS] at obj
  have noSq : ∀ b, b ∈ cs.map Prod.snd → b ≠ a := fun b hb z => by
    have y := (atP b hb).1
    rw [z, obj, hS] at y
    have y2 : Data.seq us.toArray _ = Data.fields #[] := congrArg Obj.data (Option.some.inj y)
    exact Data.noConfusion y2
  -- tracked: the script unless it is an object that the top has written, and the tables
  obtain ⟨H, hH⟩ : ∃ H : Hp, H = fun b => if b = a ∧ (K w.params).lookup a = none then some (.frz S (.lst (ns.map V.int))) else if b ∈ cs.map Prod.snd then some (.tbl #[]) else none := ⟨_, rfl⟩
  have only : ∀ b u, H b = some u → (b = a ∧ (K w.params).lookup a = none ∧ u = .frz S (.lst (ns.map V.int))) ∨ (b ∈ cs.map Prod.snd ∧ u = .tbl #[]) := fun b u e => by
    rw [hH] at e
    by_cases c : b = a ∧ (K w.params).lookup a = none
    · exact .inl ⟨c.1, c.2, (Option.some.inj ((if_pos c).symm.trans e)).symm⟩
    · have e2 := (if_neg c).symm.trans e
      by_cases c2 : b ∈ cs.map Prod.snd
      · exact .inr ⟨c2, (Option.some.inj ((if_pos c2).symm.trans e2)).symm⟩
      · exact absurd ((if_neg c2).symm.trans e2) (by simp)
  have tbl : ∀ b, b ∈ cs.map Prod.snd → H b = some (.tbl #[]) := fun b hb => by
    rw [hH]
    exact (if_neg fun z => noSq b hb z.1).trans (if_pos hb)
  have none_of : ∀ b, (∀ u, H b ≠ some u) → H b = none := fun b z => by
    cases e : H b with
    | none => rfl
    | some u => exact absurd e (z u)
  have written : ∀ {b : Addr} {o : Obj}, (K w.params).lookup b = some o → H b = none := fun {b o} e => none_of b fun u z => by
    rcases only b u z with ⟨rfl, c, _⟩ | ⟨c, _⟩
    · rw [c] at e
      cases e
    · rw [(atP b c).2] at e
      cases e
  -- an object that is neither a list nor a bare table is not tracked
  have bare : ∀ {b : Addr} {o : Obj}, t1.heap.get? b = some o → (∀ vs z, o.data ≠ .seq vs z) → o.data ≠ .fields #[] → H b = none := fun {b o} g n1 n2 => none_of b fun u z => by
    rcases only b u z with ⟨rfl, _, _⟩ | ⟨c, _⟩
    · rw [obj] at g
      obtain rfl := Option.some.inj g
      rw [hS] at n1
      exact n1 _ _ rfl
    · rw [(atP b c).1] at g
      obtain rfl := Option.some.inj g
      exact n2 rfl
  have space : ∀ {b : Addr} {m : Str → Option Value}, t1.heap.Ns b m → (hidT t1.heap H).Ns b m := fun {b m} ⟨o, es, ep, g, dd, r⟩ =>
    ⟨o, es, ep, hidT_get g (bare g (fun vs z y => by rw [dd] at y; exact Data.noConfusion y) fun y => by rw [dd] at y; exact Data.noConfusion y), dd, r⟩
  have inH : (K w.params).In (hidT t1.heap H) := fun b o e => hidT_get (kin b o e) (written e)
  have ok : HOk l.prog w H t1.heap := fun b u z => by
    rcases only b u z with ⟨rfl, _, rfl⟩ | ⟨c, rfl⟩
    · exact ⟨obj, by rw [List.length_map]; exact Nat.le_trans len fits, us, _, rel, by rw [obj, hS]⟩
    · exact (atP b c).1
  have mod : Mod (K w.params) mg (hidT t1.heap H) := { kin := inH, glob := space top.T.g, blt := ⟨mb, space top.T.b, top.T.builtins⟩, nolimit := let ⟨mc, p1, p2⟩ := top.T.nolimit; ⟨mc, space p1, p2⟩ }
  have env : Env0 l.prog w (K w.params) mg (hidT t1.heap H) callerA [] t1 H := { frames := rfl, mod := mod, bs := fun _ _ z => of_hidT z, bsz := Nat.le_of_eq (hidT_size _ _), funs := trivial, frf := fun _ z => absurd z (by simp [frs]), hok := ok, bare := .of_eq nogen }
  have seq : SqL (K w.params) H a (ns.map V.int) := by
    cases c : (K w.params).lookup a with
    | none => exact .inl (.inr ⟨S, by rw [hH]; exact if_pos ⟨rfl, c⟩⟩)
    | some o =>
      have g := kin a o c
      rw [obj] at g
      obtain rfl := Option.some.inj g
      rw [hS] at c
      exact .inr ⟨_, us.toArray, _, c, rfl, rfl, rfl, by rw [List.size_toArray, his.length]; exact Nat.le_trans len fits, rel⟩
  have TB : ∀ p ∈ cs, TabB (hidT t1.heap H) mg p.1 p.2 := fun p hp => by
    have hP := (cod p hp).2
    have mem : p.2 ∈ cs.map Prod.snd := List.mem_map.mpr ⟨p, hp, rfl⟩
    refine { code := code_hid (cod p hp).1 fun o vs g dd at11 => hidT_get g (bare g (fun y z q => by rw [dd] at q; exact Data.noConfusion q) fun q => ?_), bm := ?_, gP := fun z => ?_ }
    · rw [dd] at q
      have q2 : vs = #[] := by injection q
      rw [q2] at at11
      cases at11
    · obtain ⟨bm, o, y1, y2, y3, y4, y5, y6⟩ := top.T.bmain
      refine ⟨bm, o, y1, y2, fun z => ?_, fun z => ?_, hidT_get y3 (bare y3 (fun vs z q => by rw [y6] at q; exact Data.noConfusion q) fun q => by rw [y6] at q; exact Data.noConfusion q), y4, y5, y6⟩
      · obtain ⟨g, es, ep, g1, g2, _⟩ := top.T.g
        rw [← z, y3] at g1
        obtain rfl := Option.some.inj g1
        rw [y6] at g2
        exact Data.noConfusion g2
      · rw [z, hP] at y3
        obtain rfl := Option.some.inj y3
        exact Data.noConfusion y6
    · obtain ⟨g, es, ep, g1, g2, _⟩ := top.T.g
      rw [z, hP] at g1
      obtain rfl := Option.some.inj g1
      exact Data.noConfusion g2
  have tabs : Tabs T H := fun p hp => TabS.nil (tbl _ (tin p hp))
  refine codeAny_mono ((kept _ inH (space top.T.g) TB).run callerA [] t1 H ⟨[.ref a], []⟩ [.ref a] [.ref a] (fun v _ => v = .bl true) E0 room free env (binds t1 (.ref a)) (.cons rfl .nil) (ask _ T H a ns len tabs seq)) fun r t2 z => ?_
  match r, z with
  | .ok (.ret u), ⟨v, H', os, bareG, un, ok', rv, ev⟩ =>
    have ev' : v = .bl true := ev
    rw [ev'] at rv
    obtain rfl : u = Value.bool true := rv
    have stays : ∀ b o, b ∉ cs.map Prod.snd → t1.heap.get? b = some o → t2.heap.get? b = some o := fun b o nb e => by
      by_cases c : ∃ y, H b = some y
      · obtain ⟨y, hy⟩ := c
        rcases only b y hy with ⟨rfl, _, rfl⟩ | ⟨c2, _⟩
        · rw [obj] at e
          rw [← Option.some.inj e]
          exact (ok' b _ (un.frzs b S _ hy)).1
        · exact absurd c2 nb
      · exact un.keep b o e (none_of b fun y hy => c ⟨y, hy⟩) (by intro z; simp [frs] at z) (by simp)
    have grows : ∀ b, b ∈ cs.map Prod.snd → ∃ add : Array Value, t2.heap.get? b = some { cls := .none, data := .fields add } := fun b hb => by
      obtain ⟨add, y⟩ := un.tbls b #[] (tbl b hb)
      exact ⟨_, ok' b _ y⟩
    refine ⟨rfl, { old := fun b o e => ?_, there := fun b o e => ?_ }, os, bareG⟩
    · by_cases hb : b ∈ cs.map Prod.snd
      · obtain ⟨add, y⟩ := grows b hb
        rw [(atP b hb).1] at e
        obtain rfl := Option.some.inj e
        obtain ⟨p, hp, rfl⟩ := List.mem_map.mp hb
        refine .inr (.inl ⟨((cod p hp).1.tab (cod p hp).2).isCodeTable, rfl, #[], add, rfl, ?_⟩)
        rw [Array.empty_append]
        exact y
      · exact .inl (stays b o hb e)
    · by_cases hb : b ∈ cs.map Prod.snd
      · obtain ⟨add, y⟩ := grows b hb
        exact ⟨_, y⟩
      · exact ⟨o, stays b o hb e⟩
end W2

namespace W2
open PySem PySem.Spec PyProof.Rows L2 Pg Pf Rul Tab LamX
theorem uni4 {P1 P2 P3 P4 : Addr} {q1 q2 q3 q4 : Str} (nd : [P1, P2, P3, P4].Nodup) : (∀ p ∈ ([(P1, q1), (P2, q2), (P3, q3), (P4, q4)] : List (Addr × Str)), p.1 = P1 → p.2 = q1) ∧ (∀ p ∈ ([(P1, q1), (P2, q2), (P3, q3), (P4, q4)] : List (Addr × Str)), p.1 = P2 → p.2 = q2) ∧ (∀ p ∈ ([(P1, q1), (P2, q2), (P3, q3), (P4, q4)] : List (Addr × Str)), p.1 = P3 → p.2 = q3) ∧ (∀ p ∈ ([(P1, q1), (P2, q2), (P3, q3), (P4, q4)] : List (Addr × Str)), p.1 = P4 → p.2 = q4) := by
  simp only [List.nodup_cons, List.mem_cons, List.not_mem_nil, or_false, not_or] at nd
  obtain ⟨⟨n12, n13, n14⟩, ⟨n23, n24⟩, n34, _⟩ := nd
  have m : ∀ p ∈ ([(P1, q1), (P2, q2), (P3, q3), (P4, q4)] : List (Addr × Str)), p = (P1, q1) ∨ p = (P2, q2) ∨ p = (P3, q3) ∨ p = (P4, q4) := fun p hp => by simpa using hp
  refine ⟨fun p hp e => ?_, fun p hp e => ?_, fun p hp e => ?_, fun p hp e => ?_⟩ <;> rcases m p hp with rfl | rfl | rfl | rfl <;> first | rfl | (exfalso; simp only at e; first | exact n12 e | exact n12 e.symm | exact n13 e | exact n13 e.symm | exact n14 e | exact n14 e.symm | exact n23 e | exact n23 e.symm | exact n24 e | exact n24 e.symm | exact n34 e | exact n34 e.symm)
/-- what the top has left, and the law kept over it -/
theorem all_mk1 {PP Q : Program} {w : World} {K : PySem.W.Frag} {h : Heap} {mg : Str → Option Value} {fa C CE f_ni f_nu f_wp f_mx f_fo f_dr f_be f_dd f_fr f_du f_pt f_la f_ck g_ck P_ck f_bn g_bn P_bn f_sr g_sr P_sr f_rr g_rr P_rr m_in m_eq p_is m_is p_sq m_sq f_xi g_xi cc_xi : Addr} (X : K.In h) (G : h.Ns mainGlobals mg) (hfa : mg "law" = some (.ref fa))
    {od_ni an_ni od_nu an_nu od_wp an_wp od_mx an_mx od_fo an_fo od_dr an_dr od_be an_be od_dd an_dd od_fr an_fr od_du an_du od_pt an_pt od_la an_la od_ck an_ck d_ck od_bn an_bn d_bn od_sr an_sr d_sr od_rr an_rr d_rr od_min an_min od_meq an_meq od_mis an_mis od_msq an_msq od_xi an_xi d1_xi d2_xi : Option Addr} {sl_ni sl_nu sl_wp sl_mx sl_fo sl_dr sl_be sl_dd sl_fr sl_du sl_pt sl_la sl_ck s2_ck sl_bn s2_bn sl_sr s2_sr sl_rr s2_rr sl_min sl_meq sl_mis sl_msq sl_xi s1_xi s2_xi : Array (Option Value)} {oc_ni kv_ni dc_ni pm_ni ct_ni cd_ni oc_nu kv_nu dc_nu pm_nu ct_nu cd_nu oc_wp kv_wp dc_wp pm_wp ct_wp cd_wp oc_mx kv_mx dc_mx pm_mx ct_mx cd_mx oc_fo kv_fo dc_fo pm_fo ct_fo cd_fo oc_dr kv_dr dc_dr pm_dr ct_dr cd_dr oc_be kv_be dc_be pm_be ct_be cd_be oc_dd kv_dd dc_dd pm_dd ct_dd cd_dd oc_fr kv_fr dc_fr pm_fr ct_fr cd_fr oc_du kv_du dc_du pm_du ct_du cd_du oc_pt kv_pt dc_pt pm_pt ct_pt cd_pt oc_la kv_la dc_la pm_la ct_la cd_la oc_ck kv_ck dc_ck pm_ck ct_ck e_ck oc_bn kv_bn dc_bn pm_bn ct_bn e_bn oc_sr kv_sr dc_sr pm_sr ct_sr e_sr oc_rr kv_rr dc_rr pm_rr ct_rr e_rr oc_min kv_min dc_min pm_min ct_min cd_min oc_meq kv_meq dc_meq pm_meq ct_meq cd_meq oc_mis kv_mis dc_mis pm_mis ct_mis cd_mis oc_msq kv_msq dc_msq pm_msq ct_msq cd_msq oc_xi kv_xi dc_xi pm_xi ct_xi e1_xi e2_xi : Value} {rs_is rs_sq : List Value} {t6 t12 u6 u12 tf_xi : Tok} {file_xi : Str} {vs_ck vs_bn vs_sr vs_rr vs_xi : Array Value}
    {nmE qnE : Str} {NE : Addr} {bsE bmE : List Value} {snE : List Str} {subE : List Value} {abE : Bool} {colE : Option Bool} {ddE : Option Addr} {k0E k1E k2E k3E k5E : Option Value}
    (aC : PySem.W.nsIn K mainGlobals "Way" = some (some (.ref C)))
    (aE : PySem.W.nsIn K mainGlobals "InvalidWay" = some (some (.ref CE)))
    (a_ni : PySem.W.nsIn K mainGlobals "is_int" = some (some (.ref f_ni)))
    (l_ni : K.lookup f_ni = some ⟨oc_ni, od_ni, .func (PySem.W.fnOf "is_int" "is_int" (defArgs s_is_int) (defBody s_is_int) (defScope s_is_int) .none kv_ni dc_ni pm_ni an_ni cd_ni ct_ni), sl_ni⟩)
    (c_ni : PySem.W.codeIn K cd_ni "is_int" = true)
    (k_ni : PySem.W.keepIn K (.ref f_ni) = true)
    (a_nu : PySem.W.nsIn K mainGlobals "is_number" = some (some (.ref f_nu)))
    (l_nu : K.lookup f_nu = some ⟨oc_nu, od_nu, .func (PySem.W.fnOf "is_number" "is_number" (defArgs s_is_number) (defBody s_is_number) (defScope s_is_number) .none kv_nu dc_nu pm_nu an_nu cd_nu ct_nu), sl_nu⟩)
    (c_nu : PySem.W.codeIn K cd_nu "is_number" = true)
    (k_nu : PySem.W.keepIn K (.ref f_nu) = true)
    (a_wp : PySem.W.nsIn K mainGlobals "wrong_part" = some (some (.ref f_wp)))
    (l_wp : K.lookup f_wp = some ⟨oc_wp, od_wp, .func (PySem.W.fnOf "wrong_part" "wrong_part" (defArgs s_wrong_part) (defBody s_wrong_part) (defScope s_wrong_part) .none kv_wp dc_wp pm_wp an_wp cd_wp ct_wp), sl_wp⟩)
    (c_wp : PySem.W.codeIn K cd_wp "wrong_part" = true)
    (k_wp : PySem.W.keepIn K (.ref f_wp) = true)
    (a_mx : PySem.W.nsIn K mainGlobals "_law_mixed" = some (some (.ref f_mx)))
    (l_mx : K.lookup f_mx = some ⟨oc_mx, od_mx, .func (PySem.W.fnOf "_law_mixed" "_law_mixed" (defArgs s__law_mixed) (defBody s__law_mixed) (defScope s__law_mixed) .none kv_mx dc_mx pm_mx an_mx cd_mx ct_mx), sl_mx⟩)
    (c_mx : PySem.W.codeIn K cd_mx "_law_mixed" = true)
    (k_mx : PySem.W.keepIn K (.ref f_mx) = true)
    (a_fo : PySem.W.nsIn K mainGlobals "_law_folded" = some (some (.ref f_fo)))
    (l_fo : K.lookup f_fo = some ⟨oc_fo, od_fo, .func (PySem.W.fnOf "_law_folded" "_law_folded" (defArgs s__law_folded) (defBody s__law_folded) (defScope s__law_folded) .none kv_fo dc_fo pm_fo an_fo cd_fo ct_fo), sl_fo⟩)
    (c_fo : PySem.W.codeIn K cd_fo "_law_folded" = true)
    (k_fo : PySem.W.keepIn K (.ref f_fo) = true)
    (a_dr : PySem.W.nsIn K mainGlobals "_law_draw" = some (some (.ref f_dr)))
    (l_dr : K.lookup f_dr = some ⟨oc_dr, od_dr, .func (PySem.W.fnOf "_law_draw" "_law_draw" (defArgs s__law_draw) (defBody s__law_draw) (defScope s__law_draw) .none kv_dr dc_dr pm_dr an_dr cd_dr ct_dr), sl_dr⟩)
    (c_dr : PySem.W.codeIn K cd_dr "_law_draw" = true)
    (k_dr : PySem.W.keepIn K (.ref f_dr) = true)
    (a_be : PySem.W.nsIn K mainGlobals "_law_begun" = some (some (.ref f_be)))
    (l_be : K.lookup f_be = some ⟨oc_be, od_be, .func (PySem.W.fnOf "_law_begun" "_law_begun" (defArgs s__law_begun) (defBody s__law_begun) (defScope s__law_begun) .none kv_be dc_be pm_be an_be cd_be ct_be), sl_be⟩)
    (c_be : PySem.W.codeIn K cd_be "_law_begun" = true)
    (k_be : PySem.W.keepIn K (.ref f_be) = true)
    (a_dd : PySem.W.nsIn K mainGlobals "_law_doubled" = some (some (.ref f_dd)))
    (l_dd : K.lookup f_dd = some ⟨oc_dd, od_dd, .func (PySem.W.fnOf "_law_doubled" "_law_doubled" (defArgs s__law_doubled) (defBody s__law_doubled) (defScope s__law_doubled) .none kv_dd dc_dd pm_dd an_dd cd_dd ct_dd), sl_dd⟩)
    (c_dd : PySem.W.codeIn K cd_dd "_law_doubled" = true)
    (k_dd : PySem.W.keepIn K (.ref f_dd) = true)
    (a_fr : PySem.W.nsIn K mainGlobals "_law_is_from" = some (some (.ref f_fr)))
    (l_fr : K.lookup f_fr = some ⟨oc_fr, od_fr, .func (PySem.W.fnOf "_law_is_from" "_law_is_from" (defArgs s__law_is_from) (defBody s__law_is_from) (defScope s__law_is_from) .none kv_fr dc_fr pm_fr an_fr cd_fr ct_fr), sl_fr⟩)
    (c_fr : PySem.W.codeIn K cd_fr "_law_is_from" = true)
    (k_fr : PySem.W.keepIn K (.ref f_fr) = true)
    (a_du : PySem.W.nsIn K mainGlobals "_law_due" = some (some (.ref f_du)))
    (l_du : K.lookup f_du = some ⟨oc_du, od_du, .func (PySem.W.fnOf "_law_due" "_law_due" (defArgs s__law_due) (defBody s__law_due) (defScope s__law_due) .none kv_du dc_du pm_du an_du cd_du ct_du), sl_du⟩)
    (c_du : PySem.W.codeIn K cd_du "_law_due" = true)
    (k_du : PySem.W.keepIn K (.ref f_du) = true)
    (a_pt : PySem.W.nsIn K mainGlobals "_law_part" = some (some (.ref f_pt)))
    (l_pt : K.lookup f_pt = some ⟨oc_pt, od_pt, .func (PySem.W.fnOf "_law_part" "_law_part" (defArgs s__law_part) (defBody s__law_part) (defScope s__law_part) .none kv_pt dc_pt pm_pt an_pt cd_pt ct_pt), sl_pt⟩)
    (c_pt : PySem.W.codeIn K cd_pt "_law_part" = true)
    (k_pt : PySem.W.keepIn K (.ref f_pt) = true)
    (a_la : PySem.W.nsIn K mainGlobals "law" = some (some (.ref f_la)))
    (l_la : K.lookup f_la = some ⟨oc_la, od_la, .func (PySem.W.fnOf "law" "law" (defArgs s_law) (defBody s_law) (defScope s_law) .none kv_la dc_la pm_la an_la cd_la ct_la), sl_la⟩)
    (c_la : PySem.W.codeIn K cd_la "law" = true)
    (k_la : PySem.W.keepIn K (.ref f_la) = true)
    (a_ck : PySem.W.nsIn K mainGlobals "_law_checked" = some (some (.ref f_ck)))
    (l_ck : K.lookup f_ck = some ⟨oc_ck, od_ck, .func (PySem.W.fnOf "_law_checked" "_law_checked" (defArgs s__law_checked) (defBody s__law_checked) (defScope s__law_checked) .none kv_ck dc_ck pm_ck an_ck (.ref g_ck) ct_ck), sl_ck⟩)
    (c_ck : PySem.W.codeIn K (.ref g_ck) "_law_checked" = true)
    (k_ck : PySem.W.keepIn K (.ref f_ck) = true)
    (g1_ck : K.lookup g_ck = some ⟨e_ck, d_ck, .fields vs_ck, s2_ck⟩)
    (g2_ck : vs_ck[11]? = some (.ref P_ck))
    (g3_ck : PySem.W.tabIn K "_law_checked" = some (g_ck, P_ck))
    (g4_ck : K.lookup P_ck = none)
    (g5_ck : ((recsOf Q).any fun r => r.name == ("_law_checked" : Str)) = true)
    (a_bn : PySem.W.nsIn K mainGlobals "_law_by_names" = some (some (.ref f_bn)))
    (l_bn : K.lookup f_bn = some ⟨oc_bn, od_bn, .func (PySem.W.fnOf "_law_by_names" "_law_by_names" (defArgs s__law_by_names) (defBody s__law_by_names) (defScope s__law_by_names) .none kv_bn dc_bn pm_bn an_bn (.ref g_bn) ct_bn), sl_bn⟩)
    (c_bn : PySem.W.codeIn K (.ref g_bn) "_law_by_names" = true)
    (k_bn : PySem.W.keepIn K (.ref f_bn) = true)
    (g1_bn : K.lookup g_bn = some ⟨e_bn, d_bn, .fields vs_bn, s2_bn⟩)
    (g2_bn : vs_bn[11]? = some (.ref P_bn))
    (g3_bn : PySem.W.tabIn K "_law_by_names" = some (g_bn, P_bn))
    (g4_bn : K.lookup P_bn = none)
    (g5_bn : ((recsOf Q).any fun r => r.name == ("_law_by_names" : Str)) = true)
    (a_sr : PySem.W.nsIn K mainGlobals "_law_square_right" = some (some (.ref f_sr)))
    (l_sr : K.lookup f_sr = some ⟨oc_sr, od_sr, .func (PySem.W.fnOf "_law_square_right" "_law_square_right" (defArgs s__law_square_right) (defBody s__law_square_right) (defScope s__law_square_right) .none kv_sr dc_sr pm_sr an_sr (.ref g_sr) ct_sr), sl_sr⟩)
    (c_sr : PySem.W.codeIn K (.ref g_sr) "_law_square_right" = true)
    (k_sr : PySem.W.keepIn K (.ref f_sr) = true)
    (g1_sr : K.lookup g_sr = some ⟨e_sr, d_sr, .fields vs_sr, s2_sr⟩)
    (g2_sr : vs_sr[11]? = some (.ref P_sr))
    (g3_sr : PySem.W.tabIn K "_law_square_right" = some (g_sr, P_sr))
    (g4_sr : K.lookup P_sr = none)
    (g5_sr : ((recsOf Q).any fun r => r.name == ("_law_square_right" : Str)) = true)
    (a_rr : PySem.W.nsIn K mainGlobals "_law_doubled_right" = some (some (.ref f_rr)))
    (l_rr : K.lookup f_rr = some ⟨oc_rr, od_rr, .func (PySem.W.fnOf "_law_doubled_right" "_law_doubled_right" (defArgs s__law_doubled_right) (defBody s__law_doubled_right) (defScope s__law_doubled_right) .none kv_rr dc_rr pm_rr an_rr (.ref g_rr) ct_rr), sl_rr⟩)
    (c_rr : PySem.W.codeIn K (.ref g_rr) "_law_doubled_right" = true)
    (k_rr : PySem.W.keepIn K (.ref f_rr) = true)
    (g1_rr : K.lookup g_rr = some ⟨e_rr, d_rr, .fields vs_rr, s2_rr⟩)
    (g2_rr : vs_rr[11]? = some (.ref P_rr))
    (g3_rr : PySem.W.tabIn K "_law_doubled_right" = some (g_rr, P_rr))
    (g4_rr : K.lookup P_rr = none)
    (g5_rr : ((recsOf Q).any fun r => r.name == ("_law_doubled_right" : Str)) = true)
    (nd : [P_ck, P_bn, P_sr, P_rr].Nodup)
    (ma_in : PySem.W.findIn K (.ref C) "__init__" = some (some (.ref m_in)))
    (mi_in : PySem.W.isFn K (.ref m_in) = true)
    (ml_in : K.lookup m_in = some ⟨oc_min, od_min, .func (PySem.W.fnOf "__init__" "Way.__init__" (defArgs s_Way_init) (defBody s_Way_init) (defScope s_Way_init) .none kv_min dc_min pm_min an_min cd_min ct_min), sl_min⟩)
    (mc_in : PySem.W.codeIn K cd_min "Way.__init__" = true)
    (mk_in : PySem.W.keepIn K (.ref m_in) = true)
    (ma_eq : PySem.W.findIn K (.ref C) "__eq__" = some (some (.ref m_eq)))
    (mi_eq : PySem.W.isFn K (.ref m_eq) = true)
    (ml_eq : K.lookup m_eq = some ⟨oc_meq, od_meq, .func (PySem.W.fnOf "__eq__" "Way.__eq__" (defArgs s_eq) (defBody s_eq) (defScope s_eq) .none kv_meq dc_meq pm_meq an_meq cd_meq ct_meq), sl_meq⟩)
    (mc_eq : PySem.W.codeIn K cd_meq "Way.__eq__" = true)
    (mk_eq : PySem.W.keepIn K (.ref m_eq) = true)
    (ma_is : PySem.W.findIn K (.ref C) "is_size" = some (some (.ref p_is)))
    (mf_is : PySem.W.findCls K (.ref C) (.type "type") "is_size" = some (.get (.builtin "staticmethod.__get__") (.ref p_is) .none (.ref C)))
    (mt_is : PySem.W.typeIn K (.ref p_is) = some (.type "staticmethod"))
    (mg_is : PySem.W.specialIn K (.ref p_is) "__get__" = some (some (.builtin "staticmethod.__get__")))
    (ms_is : PySem.W.takesIn K (.ref p_is) = some false)
    (mr_is : PySem.W.recIn K p_is "staticmethod" = some (.ref m_is :: rs_is))
    (ml_is : K.lookup m_is = some ⟨oc_mis, od_mis, .func (PySem.W.fnOf "is_size" "Way.is_size" (defArgs s_is_size) (defBody s_is_size) (defScope s_is_size) .none kv_mis dc_mis pm_mis an_mis cd_mis ct_mis), sl_mis⟩)
    (mc_is : PySem.W.codeIn K cd_mis "Way.is_size" = true)
    (mk_is : PySem.W.keepIn K (.ref m_is) = true)
    (ma_sq : PySem.W.findIn K (.ref C) "square" = some (some (.ref p_sq)))
    (mf_sq : PySem.W.findCls K (.ref C) (.type "type") "square" = some (.get (.builtin "classmethod.__get__") (.ref p_sq) .none (.ref C)))
    (mt_sq : PySem.W.typeIn K (.ref p_sq) = some (.type "classmethod"))
    (mg_sq : PySem.W.specialIn K (.ref p_sq) "__get__" = some (some (.builtin "classmethod.__get__")))
    (ms_sq : PySem.W.takesIn K (.ref p_sq) = some false)
    (mr_sq : PySem.W.recIn K p_sq "classmethod" = some (.ref m_sq :: rs_sq))
    (ml_sq : K.lookup m_sq = some ⟨oc_msq, od_msq, .func (PySem.W.fnOf "square" "Way.square" (defArgs s_square) (defBody s_square) (defScope s_square) .none kv_msq dc_msq pm_msq an_msq cd_msq ct_msq), sl_msq⟩)
    (mc_sq : PySem.W.codeIn K cd_msq "Way.square" = true)
    (mk_sq : PySem.W.keepIn K (.ref m_sq) = true)
    (mn_sq : PySem.W.fnIn K m_sq = true)
    (nn_rights : PySem.W.findIn K (.ref C) "_rights" = some none)
    (nn_lefts : PySem.W.findIn K (.ref C) "_lefts" = some none)
    (nn_places : PySem.W.findIn K (.ref C) "_places" = some none)
    (nn_table : PySem.W.findIn K (.ref C) "_table" = some none)
    (x_ic : PySem.W.isClsIn K C = true)
    (x_pg : PySem.W.plainGet K C Str.empty = true)
    (x_hd : PySem.W.hasDictIn K C = true)
    (x_po : PySem.W.plainOver K C = true)
    (x_sa : PySem.W.findIn K (.ref C) "__setattr__" = some (some (.builtin "object.__setattr__")))
    (x_mk : PySem.W.makesIn K C = true)
    (x_kc : PySem.W.keepIn K (.ref C) = true)
    (x_ca : PySem.W.findIn K (.ref C) "__class__" = some (some (.builtin "object.__class__")))
    (x_cn : PySem.W.specialIn K (.builtin "object.__class__") "__get__" = some (some (.builtin "getset_descriptor.__get__")))
    (x_ct : PySem.W.takesIn K (.builtin "object.__class__") = some true)
    (x_cm : PySem.W.mroIn K C (.type "object") = some true)
    (x_ne : PySem.W.findIn K (.ref C) "__ne__" = some (some (.builtin "object.__ne__")))
    (v_6 : PySem.W.findCls K (.ref C) (.type "type") "MAX_WALKERS" = some (.val (.int 6 t6)))
    (v_12 : PySem.W.findCls K (.ref C) (.type "type") "MAX_PLACES" = some (.val (.int 12 t12)))
    (v_rd : PySem.W.readsIn K C (.type "type") = true)
    (v_ga : PySem.W.specialIn K (.ref C) "__getattribute__" = some (some (.builtin "type.__getattribute__")))
    (w_6 : PySem.W.findIn K (.ref C) "MAX_WALKERS" = some (some (.int 6 u6)))
    (w_12 : PySem.W.findIn K (.ref C) "MAX_PLACES" = some (some (.int 12 u12)))
    (w_g6 : PySem.W.specialIn K (.int 6 u6) "__get__" = some none)
    (w_g12 : PySem.W.specialIn K (.int 12 u12) "__get__" = some none)
    (e_l : K.lookup CE = some (excClassObj nmE qnE CE NE bsE bmE true snE subE abE colE ddE k0E k1E k2E k3E k5E "ValueError.__new__"))
    (e_rf : PySem.HandSPX.refsVE bmE = true)
    (e_sa : PySem.W.findIn K (.ref CE) "__setattr__" = some (some (.builtin "object.__setattr__")))
    (e_ex : PySem.W.subIn K (.ref CE) (.type "BaseException") = some true)
    (e_ty : PySem.W.typeIn K (.ref CE) = some (.type "type"))
    (e_kc : PySem.W.keepIn K (.ref CE) = true)
    (e_sv : PySem.W.subIn K (.ref CE) (.type "ValueError") = some true)
    (e_mr : PySem.W.mroIn K CE (.ref CE) = some true)
    (e_su : PySem.W.ks_superIn K CE CE "__init__" = some (some (.builtin "ValueError.__init__")))
    (e_in : PySem.W.excInitIn K CE PySem.HandSPX.veTail "ValueError.__new__" = true)
    (e_op : PySem.W.nsIn K PySem.cStatics "thirdparty.any" = some none)
    (e_no : PySem.W.findIn K (.ref CE) x_fld = some none)
    (e_fi : PySem.W.findIn K (.ref CE) "__init__" = some (some (.ref f_xi)))
    (e_ft : PySem.W.typeIn K (.ref f_xi) = some (.type "function"))
    (e_fl : K.lookup f_xi = some ⟨oc_xi, od_xi, .func (PySem.W.ksFn "__init__" x_qual (defArgs s_xi) (defBody s_xi) (defScope s_xi) .none kv_xi dc_xi pm_xi an_xi (.ref g_xi) ct_xi cc_xi), sl_xi⟩)
    (e_fc : PySem.W.codeIn K (.ref g_xi) x_qual = true)
    (e_gl : K.lookup g_xi = some ⟨e1_xi, d1_xi, .fields vs_xi, s1_xi⟩)
    (e_gf : vs_xi[2]? = some (.str file_xi tf_xi))
    (e_fn : ((PP.main.file : Str) == file_xi) = true)
    (e_cl : K.lookup cc_xi = some ⟨e2_xi, d2_xi, .cell (some (.ref CE)), s2_xi⟩)
    (e_tp : (PP.main.scope.names.lookup ("super" : Str)).isSome = false)
    (e_ga : PySem.W.findIn K (.ref CE) "__getattribute__" = some (some (.builtin "BaseException.__getattribute__")))
    (e_gg : PySem.W.findIn K (.ref CE) "__getattr__" = some none)
    (e_hd : PySem.W.hasDictIn K CE = true)
    (e_em : PySem.W.exmOne K (.ref CE) (.ref CE) = some true)
    (z_super : PySem.W.nsIn K mainGlobals "super" = some none)
    (z_range : PySem.W.nsIn K mainGlobals "range" = some none)
    (z_enumerate : PySem.W.nsIn K mainGlobals "enumerate" = some none)
    (z_len : PySem.W.nsIn K mainGlobals "len" = some none)
    (z_tuple : PySem.W.nsIn K mainGlobals "tuple" = some none)
    (z_max : PySem.W.nsIn K mainGlobals "max" = some none)
    (z_min : PySem.W.nsIn K mainGlobals "min" = some none)
    (z_repr : PySem.W.nsIn K mainGlobals "repr" = some none)
    (z_zip : PySem.W.nsIn K mainGlobals "zip" = some none)
    (z_isinstance : PySem.W.nsIn K mainGlobals "isinstance" = some none)
    (z_bool : PySem.W.nsIn K mainGlobals "bool" = some none)
    (z_int : PySem.W.nsIn K mainGlobals "int" = some none)
    : ∃ (fd : FuncData) (cs : List (Addr × Addr)) (T : List (Addr × Str)), (∀ (s : Shared) (v : Value), BindsTo s fd ⟨[v], []⟩ [("_law_script", v)]) ∧ (∀ p ∈ cs, K.lookup p.2 = none) ∧ (∀ p ∈ cs, ∃ y : Str, ((recsOf Q).any fun r => r.name == y) = true ∧ PySem.W.tabIn K y = some p) ∧ (∀ p ∈ T, p.1 ∈ cs.map Prod.snd) ∧
      ∀ base : Heap, K.In base → base.Ns mainGlobals mg → (∀ p ∈ cs, TabB base mg p.1 p.2) → FnG PP w K mg base 11 fa fd ["_law_script"] (spLaw K T) := by
  have e := hfa.symm.trans (PySem.W.mg_of X G a_la)
  cases e
  have mC := PySem.W.mg_of X G aC
  have mE := PySem.W.mg_of X G aE
  have B : Bt mg := ⟨PySem.W.mg_none_of X G z_range, PySem.W.mg_none_of X G z_enumerate, PySem.W.mg_none_of X G z_len, PySem.W.mg_none_of X G z_tuple, PySem.W.mg_none_of X G z_max, PySem.W.mg_none_of X G z_min, PySem.W.mg_none_of X G z_repr, PySem.W.mg_none_of X G z_zip⟩
  have B2 : Bw mg := ⟨PySem.W.mg_none_of X G z_isinstance, PySem.W.mg_none_of X G z_bool, PySem.W.mg_none_of X G z_int⟩
  have cls : Cls K C := ⟨x_pg, x_hd, x_po, x_sa⟩
  have rdC : ClX.CRead K C (.type "type") := ⟨v_rd, v_ga⟩
  have v6 : ClX.CVal K C (.type "type") "MAX_WALKERS" (.int 6) (.int 6 t6) := ⟨v_6, ⟨_, rfl⟩⟩
  have v12 : ClX.CVal K C (.type "type") "MAX_PLACES" (.int 12) (.int 12 t12) := ⟨v_12, ⟨_, rfl⟩⟩
  have k6 : Con K C "MAX_WALKERS" (.int 6) (.int 6 u6) := ⟨w_6, ⟨_, rfl⟩, w_g6, by decide +kernel⟩
  have k12 : Con K C "MAX_PLACES" (.int 12) (.int 12 u12) := ⟨w_12, ⟨_, rfl⟩, w_g12, by decide +kernel⟩
  have wc : Wc K mg C := ⟨mC, .type "type", t6, t12, rdC, v6, v12⟩
  have wt : Wt K mg C := ⟨cls, nn_rights, nn_lefts, nn_places, nn_table, mC, .type "type", t6, t12, rdC, v6, v12⟩
  have oex : OexC K CE := ⟨⟨_, _, _, _, _, _, _, _, _, _, _, _, _, _, _, e_l, e_rf⟩, e_sa, e_ex, e_ty, e_kc⟩
  have xf : XfC K CE := ⟨e_ga, e_gg, e_ex, e_hd⟩
  have F_ni := fun_mk (st := s_is_int) l_ni c_ni k_ni
  have b_ni := F_ni.binds (ps := ["value"]) fun _ _ _ _ _ _ us hl => match us, hl with | [_], _ => rfl
  have F_nu := fun_mk (st := s_is_number) l_nu c_nu k_nu
  have b_nu := F_nu.binds (ps := ["value", "low", "high"]) fun _ _ _ _ _ _ us hl => match us, hl with | [_, _, _], _ => rfl
  have F_wp := fun_mk (st := s_wrong_part) l_wp c_wp k_wp
  have b_wp := F_wp.binds (ps := ["rights", "lefts", "places"]) fun _ _ _ _ _ _ us hl => match us, hl with | [_, _, _], _ => rfl
  have F_mx := fun_mk (st := s__law_mixed) l_mx c_mx k_mx
  have b_mx := F_mx.binds (ps := ["_law_cell", "_law_n"]) fun _ _ _ _ _ _ us hl => match us, hl with | [_, _], _ => rfl
  have F_fo := fun_mk (st := s__law_folded) l_fo c_fo k_fo
  have b_fo := F_fo.binds (ps := ["_law_script"]) fun _ _ _ _ _ _ us hl => match us, hl with | [_], _ => rfl
  have F_dr := fun_mk (st := s__law_draw) l_dr c_dr k_dr
  have b_dr := F_dr.binds (ps := ["_law_m", "_law_top"]) fun _ _ _ _ _ _ us hl => match us, hl with | [_, _], _ => rfl
  have F_be := fun_mk (st := s__law_begun) l_be c_be k_be
  have b_be := F_be.binds (ps := ["_law_script"]) fun _ _ _ _ _ _ us hl => match us, hl with | [_], _ => rfl
  have F_dd := fun_mk (st := s__law_doubled) l_dd c_dd k_dd
  have b_dd := F_dd.binds (ps := ["_law_kind"]) fun _ _ _ _ _ _ us hl => match us, hl with | [_], _ => rfl
  have F_fr := fun_mk (st := s__law_is_from) l_fr c_fr k_fr
  have b_fr := F_fr.binds (ps := ["_law_thing_here", "_law_top"]) fun _ _ _ _ _ _ us hl => match us, hl with | [_, _], _ => rfl
  have F_du := fun_mk (st := s__law_due) l_du c_du k_du
  have b_du := F_du.binds (ps := ["_law_east", "_law_west", "_law_spots"]) fun _ _ _ _ _ _ us hl => match us, hl with | [_, _, _], _ => rfl
  have F_pt := fun_mk (st := s__law_part) l_pt c_pt k_pt
  have b_pt := F_pt.binds (ps := ["_law_call"]) fun _ _ _ _ _ _ us hl => match us, hl with | [_], _ => rfl
  have F_la := fun_mk (st := s_law) l_la c_la k_la
  have M_in := fun_mk (st := s_Way_init) ml_in mc_in mk_in
  have d_in := M_in.binds (ps := ["self", "rights", "lefts", "places"]) fun _ _ _ _ _ _ us hl => match us, hl with | [_, _, _, _], _ => rfl
  have M_eq := fun_mk (st := s_eq) ml_eq mc_eq mk_eq
  have d_eq := M_eq.binds (ps := ["self", "other"]) fun _ _ _ _ _ _ us hl => match us, hl with | [_, _], _ => rfl
  have M_is := fun_mk (st := s_is_size) ml_is mc_is mk_is
  have d_is := M_is.binds (ps := ["rights", "lefts", "places"]) fun _ _ _ _ _ _ us hl => match us, hl with | [_, _, _], _ => rfl
  have M_sq := fun_mk (st := s_square) ml_sq mc_sq mk_sq
  have d_sq := M_sq.binds (ps := ["cls", "walkers"]) fun _ _ _ _ _ _ us hl => match us, hl with | [_, _], _ => rfl
  obtain ⟨T, hT⟩ : ∃ T : List (Addr × Str), T = [(P_ck, lamQ "_law_checked" (defScope s__law_checked)), (P_bn, lamQ "_law_by_names" (defScope s__law_by_names)), (P_sr, lamQ "_law_square_right" (defScope s__law_square_right)), (P_rr, lamQ "_law_doubled_right" (defScope s__law_doubled_right))] := ⟨_, rfl⟩
  refine ⟨PySem.W.fnOf "law" "law" (defArgs s_law) (defBody s_law) (defScope s_law) .none kv_la dc_la pm_la an_la cd_la ct_la, [(g_ck, P_ck), (g_bn, P_bn), (g_sr, P_sr), (g_rr, P_rr)], T, fun s v => .of_eq rfl, fun p hp => ?_, fun p hp => ?_, fun p hp => ?_, fun base _ _ TB => ?_⟩
  · have m : p = (g_ck, P_ck) ∨ p = (g_bn, P_bn) ∨ p = (g_sr, P_sr) ∨ p = (g_rr, P_rr) := by simpa using hp
    rcases m with rfl | rfl | rfl | rfl
    · exact g4_ck
    · exact g4_bn
    · exact g4_sr
    · exact g4_rr
  · have m : p = (g_ck, P_ck) ∨ p = (g_bn, P_bn) ∨ p = (g_sr, P_sr) ∨ p = (g_rr, P_rr) := by simpa using hp
    rcases m with rfl | rfl | rfl | rfl
    · exact ⟨_, g5_ck, g3_ck⟩
    · exact ⟨_, g5_bn, g3_bn⟩
    · exact ⟨_, g5_sr, g3_sr⟩
    · exact ⟨_, g5_rr, g3_rr⟩
  · rw [hT] at hp
    have m : p = (P_ck, lamQ "_law_checked" (defScope s__law_checked)) ∨ p = (P_bn, lamQ "_law_by_names" (defScope s__law_by_names)) ∨ p = (P_sr, lamQ "_law_square_right" (defScope s__law_square_right)) ∨ p = (P_rr, lamQ "_law_doubled_right" (defScope s__law_doubled_right)) := by simpa using hp
    rcases m with rfl | rfl | rfl | rfl <;> simp
  obtain ⟨un1, un2, un3, un4⟩ := uni4 (q1 := lamQ "_law_checked" (defScope s__law_checked)) (q2 := lamQ "_law_by_names" (defScope s__law_by_names)) (q3 := lamQ "_law_square_right" (defScope s__law_square_right)) (q4 := lamQ "_law_doubled_right" (defScope s__law_doubled_right)) nd
  rw [← hT] at un1 un2 un3 un4
  have mem_ck : (P_ck, lamQ "_law_checked" (defScope s__law_checked)) ∈ T := by rw [hT]; exact .head _
  have FT_ck : FunT K mg base T "_law_checked" s__law_checked f_ck _ g_ck P_ck := ⟨⟨_, _, _, _, _, _, _, _, rfl, l_ck, c_ck⟩, k_ck, TB (g_ck, P_ck) (.head _), mem_ck, un1⟩
  have mem_bn : (P_bn, lamQ "_law_by_names" (defScope s__law_by_names)) ∈ T := by rw [hT]; exact .tail _ (.head _)
  have FT_bn : FunT K mg base T "_law_by_names" s__law_by_names f_bn _ g_bn P_bn := ⟨⟨_, _, _, _, _, _, _, _, rfl, l_bn, c_bn⟩, k_bn, TB (g_bn, P_bn) (.tail _ (.head _)), mem_bn, un2⟩
  have mem_sr : (P_sr, lamQ "_law_square_right" (defScope s__law_square_right)) ∈ T := by rw [hT]; exact .tail _ (.tail _ (.head _))
  have FT_sr : FunT K mg base T "_law_square_right" s__law_square_right f_sr _ g_sr P_sr := ⟨⟨_, _, _, _, _, _, _, _, rfl, l_sr, c_sr⟩, k_sr, TB (g_sr, P_sr) (.tail _ (.tail _ (.head _))), mem_sr, un3⟩
  have mem_rr : (P_rr, lamQ "_law_doubled_right" (defScope s__law_doubled_right)) ∈ T := by rw [hT]; exact .tail _ (.tail _ (.tail _ (.head _)))
  have FT_rr : FunT K mg base T "_law_doubled_right" s__law_doubled_right f_rr _ g_rr P_rr := ⟨⟨_, _, _, _, _, _, _, _, rfl, l_rr, c_rr⟩, k_rr, TB (g_rr, P_rr) (.tail _ (.tail _ (.tail _ (.head _)))), mem_rr, un4⟩
  have xi : Xi PP K CE f_xi _ := ⟨oex, e_sv, e_mr, e_su, e_in, e_op, e_no, ⟨_, _, _, _, _, _, _, _, _, _, rfl, e_fl, e_fc, ⟨_, _, _, _, _, _, e_gl, e_gf, e_fn⟩, ⟨_, _, _, e_cl⟩⟩, e_tp⟩
  have xc : Xc PP w K mg base CE := ⟨oex, mE, f_xi, _, e_fi, e_ft, ok_xi (PySem.W.mg_none_of X G z_super) xi, .all fun us hl => match us, hl with | [_, _], _ => rfl⟩
  have C_ni : CalO PP w K mg base 1 "is_int" (spIntD K) := ⟨_, _, ["value"], ok_is_int B2 F_ni, PySem.W.mg_of X G a_ni, k_ni, b_ni⟩
  have C_nu : CalO PP w K mg base 2 "is_number" (spNumD K) := ⟨_, _, ["value", "low", "high"], ok_is_number C_ni F_nu, PySem.W.mg_of X G a_nu, k_nu, b_nu⟩
  have C_wp : CalO PP w K mg base 3 "wrong_part" (spWrongD K) := ⟨_, _, ["rights", "lefts", "places"], ok_wrong wc C_nu F_wp, PySem.W.mg_of X G a_wp, k_wp, b_wp⟩
  have C_mx : CalG PP w K mg base 2 "_law_mixed" spMixed := ⟨_, _, ["_law_cell", "_law_n"], ok_mixed F_mx, PySem.W.mg_of X G a_mx, k_mx, b_mx⟩
  have C_fo : CalG PP w K mg base 2 "_law_folded" (spFolded K) := ⟨_, _, ["_law_script"], ok_folded B F_fo, PySem.W.mg_of X G a_fo, k_fo, b_fo⟩
  have C_dr : CalG PP w K mg base 3 "_law_draw" spDraw := ⟨_, _, ["_law_m", "_law_top"], ok_draw B C_mx F_dr, PySem.W.mg_of X G a_dr, k_dr, b_dr⟩
  have C_be : CalG PP w K mg base 3 "_law_begun" (spBegun K) := ⟨_, _, ["_law_script"], ok_begun B C_fo F_be, PySem.W.mg_of X G a_be, k_be, b_be⟩
  have C_dd : CalG PP w K mg base 2 "_law_doubled" (spDoubled K) := ⟨_, _, ["_law_kind"], ok_doubled B F_dd, PySem.W.mg_of X G a_dd, k_dd, b_dd⟩
  have C_fr : CalO PP w K mg base 2 "_law_is_from" (spFrom K) := ⟨_, _, ["_law_thing_here", "_law_top"], ok_from B2 F_fr, PySem.W.mg_of X G a_fr, k_fr, b_fr⟩
  have C_du : CalO PP w K mg base 3 "_law_due" (spDue K) := ⟨_, _, ["_law_east", "_law_west", "_law_spots"], ok_due C_fr F_du, PySem.W.mg_of X G a_du, k_du, b_du⟩
  have okI : FnOk PP w K mg base (L2.CX PP w) 4 m_in _ ["self", "rights", "lefts", "places"] (spInitX K C CE) := ok_init B wt xc C_wp M_in
  have mk : Mk K C m_in := ⟨x_mk, ma_in, mi_in, x_kc⟩
  have bI := d_in
  have max : MaX PP w K mg base C CE := ⟨⟨m_in, _, mk, okI, bI⟩, mC⟩
  have okZ : FnOk PP w K mg base CX0 4 m_is _ ["rights", "lefts", "places"] (spSizeD K) := ok_size C_wp M_is
  have smS : Sm PP w K mg base 4 C "is_size" (spSizeD K) := ⟨p_is, m_is, _, _, _, _, rdC, mf_is, mr_is, mk_is, okZ, d_is, cls, x_ic, ma_is, mt_is, mg_is, ms_is, by decide +kernel⟩
  have smK : SmK PP w K mg base 4 C "is_size" (spSizeD K) := ⟨p_is, m_is, _, _, _, rdC, mf_is, mr_is, mk_is, okZ, fun s w1 w2 w3 => .of_eq rfl⟩
  have kb : KBn K (PySem.W.fnOf "__init__" "Way.__init__" (defArgs s_Way_init) (defBody s_Way_init) (defScope s_Way_init) .none kv_min dc_min pm_min an_min cd_min ct_min) ["self", "rights", "lefts", "places"] 1 ["places", "lefts", "rights"] gK gK := ⟨fun s us ws _ h1 h2 => match us, ws, h1, h2 with | [_], [_, _, _], _, _ => .of_eq rfl, fun r1 r2 => match r1, r2 with | .cons a .nil, .cons b (.cons c (.cons d .nil)) => .cons a (.cons d (.cons c (.cons b .nil))) | .nil, _ => .nil | .cons _ .nil, .nil => .nil | .cons _ .nil, .cons _ .nil => .nil | .cons _ .nil, .cons _ (.cons _ .nil) => .nil | .cons _ .nil, .cons _ (.cons _ (.cons _ (.cons _ _))) => .nil | .cons _ (.cons _ _), _ => .nil⟩
  have lp : Lp K mg CE := ⟨⟨f_pt, _, _, _, _, _, _, _, _, _, _, PySem.W.mg_of X G a_pt, k_pt, l_pt, c_pt, b_pt⟩, xf, e_no, mE, e_em⟩
  have okS : FnOk PP w K mg base (L2.CX PP w) 6 m_sq _ ["cls", "walkers"] (spSq K C CE) := ok_square mk okI bI M_sq
  have okSr : FnR PP w K mg base (L2.CX PP w) 6 m_sq (spSq K C CE) := (okS.raw d_sq .nil).imp fun vs H Q E h => by rw [List.append_nil]; exact h
  have cmS : ClX.CMet K C (.type "type") "square" p_sq m_sq := ⟨mf_sq, ⟨_, mr_sq⟩, mn_sq⟩
  have ciS : ClX.CInst K C "square" p_sq m_sq := ⟨x_pg, x_ic, ma_sq, mt_sq, mg_sq, ms_sq, by decide +kernel, ⟨_, mr_sq⟩, mn_sq⟩
  have we : We PP w K mg base 2 C (spEqW K C) := ⟨cls, x_ca, x_cn, x_ct, x_cm, x_ne, ⟨m_eq, _, ma_eq, mi_eq, ok_eqW B2 wt x_ca x_cn x_ct x_cm M_eq, d_eq⟩⟩
  have G_ck : FnG PP w K mg base 9 f_ck _ ["_law_east", "_law_west", "_law_spots"] (spChecked1 K T) := ok_checked B C_du smS lp max FT_ck
  have C_ck : CalG PP w K mg base 9 "_law_checked" (spChecked1 K T) := ⟨_, _, ["_law_east", "_law_west", "_law_spots"], G_ck, PySem.W.mg_of X G a_ck, k_ck, .all fun us hl => match us, hl with | [_, _, _], _ => rfl⟩
  have G_bn : FnG PP w K mg base 9 f_bn _ ["_law_road", "_law_east", "_law_west", "_law_spots"] (spByNames K T C) := ok_by_names B C_du smS smK lp mk okI kb mC FT_bn
  have C_bn : CalG PP w K mg base 9 "_law_by_names" (spByNames K T C) := ⟨_, _, ["_law_road", "_law_east", "_law_west", "_law_spots"], G_bn, PySem.W.mg_of X G a_bn, k_bn, .all fun us hl => match us, hl with | [_, _, _, _], _ => rfl⟩
  have G_sr : FnG PP w K mg base 10 f_sr _ ["_law_road", "_law_walkers_here"] (spSqRight K T C) := ok_sq_right B C_du lp mk okI bI mC rdC cmS ciS okSr okS (fun s u v => .of_eq rfl) we FT_sr
  have C_sr : CalG PP w K mg base 10 "_law_square_right" (spSqRight K T C) := ⟨_, _, ["_law_road", "_law_walkers_here"], G_sr, PySem.W.mg_of X G a_sr, k_sr, .all fun us hl => match us, hl with | [_, _], _ => rfl⟩
  have G_rr : FnG PP w K mg base 10 f_rr _ [] (spDblRight T) := ok_dbl_right B C_dd smS lp mk okI bI mC rdC cmS okSr FT_rr
  have C_rr : CalG PP w K mg base 10 "_law_doubled_right" (spDblRight T) := ⟨_, _, [], G_rr, PySem.W.mg_of X G a_rr, k_rr, .all fun us hl => match us, hl with | [], _ => rfl⟩
  exact ok_law B C_be C_dr C_ck C_bn C_sr C_rr mk okI bI mC rdC v6 v12 cls k6 k12 F_la
end W2

open PySem PySem.W PyProof.Rows
set_option maxHeartbeats 0 in
theorem PySem.Challenge.cw_passplaces_k01_ways_checked_holds : PySem.Challenge.rw_passplaces_k01_ways_checked.Holds := by
  w_on; o_law; k_head; (case hw => w_witness2)
  k_fill
  refine W2.walkGT (l := PySem.Challenge.rw_passplaces_k01_ways_checked) (n := 63) (k := 11) (x := "_law_script") (sp := W2.spLaw) rfl (by decide) rfl ⟨rfl, by decide, by decide⟩ rfl (fun w h Y => PySem.W.km_in_of Y) ?F (fun K T H a ns hl hT hS => ⟨a, ns, rfl, hS, hl, hT, fun _ => rfl⟩)
  case F =>
    intro w mg fa h KX G hmg
    refine' W2.all_mk1 KX G hmg ?aC ?aE ?a_ni ?l_ni ?c_ni ?k_ni ?a_nu ?l_nu ?c_nu ?k_nu ?a_wp ?l_wp ?c_wp ?k_wp ?a_mx ?l_mx ?c_mx ?k_mx ?a_fo ?l_fo ?c_fo ?k_fo ?a_dr ?l_dr ?c_dr ?k_dr ?a_be ?l_be ?c_be ?k_be ?a_dd ?l_dd ?c_dd ?k_dd ?a_fr ?l_fr ?c_fr ?k_fr ?a_du ?l_du ?c_du ?k_du ?a_pt ?l_pt ?c_pt ?k_pt ?a_la ?l_la ?c_la ?k_la ?a_ck ?l_ck ?c_ck ?k_ck ?g1_ck ?g2_ck ?g3_ck ?g4_ck ?g5_ck ?a_bn ?l_bn ?c_bn ?k_bn ?g1_bn ?g2_bn ?g3_bn ?g4_bn ?g5_bn ?a_sr ?l_sr ?c_sr ?k_sr ?g1_sr ?g2_sr ?g3_sr ?g4_sr ?g5_sr ?a_rr ?l_rr ?c_rr ?k_rr ?g1_rr ?g2_rr ?g3_rr ?g4_rr ?g5_rr ?nd ?ma_in ?mi_in ?ml_in ?mc_in ?mk_in ?ma_eq ?mi_eq ?ml_eq ?mc_eq ?mk_eq ?ma_is ?mf_is ?mt_is ?mg_is ?ms_is ?mr_is ?ml_is ?mc_is ?mk_is ?ma_sq ?mf_sq ?mt_sq ?mg_sq ?ms_sq ?mr_sq ?ml_sq ?mc_sq ?mk_sq ?mn_sq ?nn_rights ?nn_lefts ?nn_places ?nn_table ?x_ic ?x_pg ?x_hd ?x_po ?x_sa ?x_mk ?x_kc ?x_ca ?x_cn ?x_ct ?x_cm ?x_ne ?v_6 ?v_12 ?v_rd ?v_ga ?w_6 ?w_12 ?w_g6 ?w_g12 ?e_l ?e_rf ?e_sa ?e_ex ?e_ty ?e_kc ?e_sv ?e_mr ?e_su ?e_in ?e_op ?e_no ?e_fi ?e_ft ?e_fl ?e_fc ?e_gl ?e_gf ?e_fn ?e_cl ?e_tp ?e_ga ?e_gg ?e_hd ?e_em ?z_super ?z_range ?z_enumerate ?z_len ?z_tuple ?z_max ?z_min ?z_repr ?z_zip ?z_isinstance ?z_bool ?z_int
    (case aC => k_is)
    (case aE => k_is)
    (case a_ni => k_is)
    (case l_ni => k_is)
    (case c_ni => k_is)
    (case k_ni => k_is)
    (case a_nu => k_is)
    (case l_nu => k_is)
    (case c_nu => k_is)
    (case k_nu => k_is)
    (case a_wp => k_is)
    (case l_wp => k_is)
    (case c_wp => k_is)
    (case k_wp => k_is)
    (case a_mx => k_is)
    (case l_mx => k_is)
    (case c_mx => k_is)
    (case k_mx => k_is)
    (case a_fo => k_is)
    (case l_fo => k_is)
    (case c_fo => k_is)
    (case k_fo => k_is)
    (case a_dr => k_is)
    (case l_dr => k_is)
    (case c_dr => k_is)
    (case k_dr => k_is)
    (case a_be => k_is)
    (case l_be => k_is)
    (case c_be => k_is)
    (case k_be => k_is)
    (case a_dd => k_is)
    (case l_dd => k_is)
    (case c_dd => k_is)
    (case k_dd => k_is)
    (case a_fr => k_is)
    (case l_fr => k_is)
    (case c_fr => k_is)
    (case k_fr => k_is)
    (case a_du => k_is)
    (case l_du => k_is)
    (case c_du => k_is)
    (case k_du => k_is)
    (case a_pt => k_is)
    (case l_pt => k_is)
    (case c_pt => k_is)
    (case k_pt => k_is)
    (case a_la => k_is)
    (case l_la => k_is)
    (case c_la => k_is)
    (case k_la => k_is)
    (case a_ck => k_is)
    (case l_ck => k_is)
    (case c_ck => k_is)
    (case k_ck => k_is)
    (case g1_ck => k_is)
    (case g2_ck => exact rfl)
    (case g3_ck => kernel_rfl)
    (case g4_ck => kernel_rfl)
    (case g5_ck => kernel_rfl)
    (case a_bn => k_is)
    (case l_bn => k_is)
    (case c_bn => k_is)
    (case k_bn => k_is)
    (case g1_bn => k_is)
    (case g2_bn => exact rfl)
    (case g3_bn => kernel_rfl)
    (case g4_bn => kernel_rfl)
    (case g5_bn => kernel_rfl)
    (case a_sr => k_is)
    (case l_sr => k_is)
    (case c_sr => k_is)
    (case k_sr => k_is)
    (case g1_sr => k_is)
    (case g2_sr => exact rfl)
    (case g3_sr => kernel_rfl)
    (case g4_sr => kernel_rfl)
    (case g5_sr => kernel_rfl)
    (case a_rr => k_is)
    (case l_rr => k_is)
    (case c_rr => k_is)
    (case k_rr => k_is)
    (case g1_rr => k_is)
    (case g2_rr => exact rfl)
    (case g3_rr => kernel_rfl)
    (case g4_rr => kernel_rfl)
    (case g5_rr => kernel_rfl)
    (case nd => decide)
    (case ma_in => k_is)
    (case mi_in => k_is)
    (case ml_in => k_is)
    (case mc_in => k_is)
    (case mk_in => k_is)
    (case ma_eq => k_is)
    (case mi_eq => k_is)
    (case ml_eq => k_is)
    (case mc_eq => k_is)
    (case mk_eq => k_is)
    (case ma_is => k_is)
    (case mf_is => k_is)
    (case mt_is => k_is)
    (case mg_is => k_is)
    (case ms_is => k_is)
    (case mr_is => k_is)
    (case ml_is => k_is)
    (case mc_is => k_is)
    (case mk_is => k_is)
    (case ma_sq => k_is)
    (case mf_sq => k_is)
    (case mt_sq => k_is)
    (case mg_sq => k_is)
    (case ms_sq => k_is)
    (case mr_sq => k_is)
    (case ml_sq => k_is)
    (case mc_sq => k_is)
    (case mk_sq => k_is)
    (case mn_sq => k_is)
    (case nn_rights => k_is)
    (case nn_lefts => k_is)
    (case nn_places => k_is)
    (case nn_table => k_is)
    (case x_ic => k_is)
    (case x_pg => k_is)
    (case x_hd => k_is)
    (case x_po => k_is)
    (case x_sa => k_is)
    (case x_mk => k_is)
    (case x_kc => k_is)
    (case x_ca => k_is)
    (case x_cn => k_is)
    (case x_ct => k_is)
    (case x_cm => k_is)
    (case x_ne => k_is)
    (case v_6 => k_is)
    (case v_12 => k_is)
    (case v_rd => k_is)
    (case v_ga => k_is)
    (case w_6 => k_is)
    (case w_12 => k_is)
    (case w_g6 => k_is)
    (case w_g12 => k_is)
    (case e_l => k_is)
    (case e_rf => kernel_rfl)
    (case e_sa => k_is)
    (case e_ex => k_is)
    (case e_ty => k_is)
    (case e_kc => k_is)
    (case e_sv => k_is)
    (case e_mr => k_is)
    (case e_su => kernel_rfl)
    (case e_in => kernel_rfl)
    (case e_op => k_is)
    (case e_no => k_is)
    (case e_fi => k_is)
    (case e_ft => k_is)
    (case e_fl => k_is)
    (case e_fc => k_is)
    (case e_gl => k_is)
    (case e_gf => exact rfl)
    (case e_fn => kernel_rfl)
    (case e_cl => k_is)
    (case e_tp => kernel_rfl)
    (case e_ga => k_is)
    (case e_gg => k_is)
    (case e_hd => k_is)
    (case e_em => kernel_rfl)
    (case z_super => k_is)
    (case z_range => k_is)
    (case z_enumerate => k_is)
    (case z_len => k_is)
    (case z_tuple => k_is)
    (case z_max => k_is)
    (case z_min => k_is)
    (case z_repr => k_is)
    (case z_zip => k_is)
    (case z_isinstance => k_is)
    (case z_bool => k_is)
    (case z_int => k_is)
