import PyProof.Rows.All
import Wide.All
import OpenK.AllK
import Wide.FinOn
import PyProof.ReprRoads
import HandS.Base
import HandS.Call
import HandS.List
import HandS.Comp
import HandS.Dict
import HandS.Iter
import HandS.Ends
import HandS.Words
import HandS.Evl
import HandS.WordsList
import HandS.Conv
import HandS.Walk
import PySem.Challenge.RW_passplaces_k02_ways_read
import HandS.TupMul
import HandS.TupAny
import HandS.Property
import HandS.IsInst
import HandS.ClsMeth
import HandS.Star
import OpenK.KOps
import PyProof.InstEq
import PyProof.ReprLen
import HandS.Style
set_option Elab.async false
set_option linter.all false
set_option maxRecDepth 100000
set_option maxHeartbeats 2000000
/-! Pg: defs that are called where nothing is being shown (guards are empty). -/
namespace Pg
open PySem PySem.Spec PyProof.Rows L2

/-- the def at f keeps its promise where no object is being shown -/
structure FnG (P : Program) (w : World) (K : PySem.W.Frag) (mg : Str → Option Value) (base : Heap) (k : Nat) (f : Addr) (fd : FuncData) (ps : List Str) (sp : Sp) : Prop where
  len : ∀ vs H Q E, sp vs H Q E → vs.length = ps.length
  run : ∀ (A : Around) (outer : List Env) (s : Shared) (H : Hp) (args : Args) (us : List Value) (vs : List V) (Q : VK) (E : XK), Room k A → A.guards = some [] → Env0 P w K mg base A outer s H → BindsTo s fd args (ps.zip us) → Vals vs us → sp vs H Q E →
    codeAny (model P w) A (.call (.ref f) args) (CR CX0 outer P w H s Q E) s

theorem gd_deeper {A : Around} {env : Env} (h : A.guards = some []) : (A.deeper env).guards = some [] := h

section
variable {P : Program} {w : World} {K : PySem.W.Frag} {mg : Str → Option Value} {base : Heap} {k : Nat} {f : Addr}
theorem fnG_of {name qual : Str} {params : Arguments} {body : List Stmt} {scope : Scope} {dV kV doc pm cdv ct oc : Value} {an od : Option Addr} {osl : Array (Option Value)} {N ps : List Str} {sp : Sp}
    (lk : K.lookup f = some ⟨oc, od, .func (PySem.W.fnOf name qual params body scope dV kV doc pm an cdv ct), osl⟩) (hcd : PySem.W.codeIn K cdv qual = true) (S : FnScope N ps scope)
    (len : ∀ vs H Q E, sp vs H Q E → vs.length = ps.length)
    (hbody : ∀ (A : Around) (outer : List Env) (s : Shared) (H : Hp) (vs : List V) (Q : VK) (E : XK), Room k (A.deeper (envOfC qual scope s.heap.objs.size f cdv)) → (A.deeper (envOfC qual scope s.heap.objs.size f cdv)).guards = some [] → sp vs H Q E →
      ∃ t, PSs (cxOf CX0 P w K mg base N qual scope f cdv A outer s H E) body t ∧ t { nx := fun _ H' => Q .non H', rt := Q } (start N vs) H) :
    FnG P w K mg base (k + 1) f (PySem.W.fnOf name qual params body scope dV kV doc pm an cdv ct) ps sp := by
  refine ⟨len, fun A outer s H args us vs Q E hr hgd e0 hb r hsp => ?_⟩
  have hl := len _ _ _ _ hsp
  have KX : K.In s.heap := e0.mod.kin.keeps fun b o e => (e0.bs b o e).1
  have lim : s.heap.NoLimit := e0.mod.nolimit.keeps fun b o e => (e0.bs b o e).1
  have hkind : ∀ y ∈ ps.zip us, scope.names.lookup y.1 = some .local ∨ (scope.names.lookup y.1 = some .cell ∧ ((cellsFrom (s.heap.objs.size + 1) scope.names []).lookup y.1).isSome = true) := fun ⟨n, v⟩ hy => by
    rcases S.par n (List.of_mem_zip hy).1 with q | q
    · exact .inl q
    · exact .inr ⟨q, PySem.W.cellsFrom_some _ _ _ (.inl q)⟩
  refine codeAny_call_function hr.depth (KX _ _ lk) rfl S.co S.gen rfl (PySem.W.codeRec_of KX hcd) (hb _ _ _ _ ?_)
  refine wpAny_newFunctionEnv_cells S.kind hkind fun env he s1 x => ?_
  subst he
  refine ⟨lim.keeps x.toInCall.keep, codeAny_func ?_⟩
  obtain ⟨t, ht, hq⟩ := hbody A outer s H vs Q E (hr.deeper _) (gd_deeper hgd) hsp
  have I : Inv (cxOf CX0 P w K mg base N qual scope f cdv A outer s H E) [] (start N vs) H s1 := inv_start S hr.hd e0 hl r x
  refine wpAny_mono (ht.run [] s1 (start N vs) H _ I hq) (fun fl s' hs => ?_) fun e s' hs => hs
  have fin : ∀ {σ' : L2.St} {H' : Hp} {v : V} {u : Value}, Inv (cxOf CX0 P w K mg base N qual scope f cdv A outer s H E) [] σ' H' s' → RelV v u → Q v H' → CE outer P w H s Q u s' :=
    fun {σ' H' v u} J rv q => ⟨v, H', J.os, J.bare, J.base, J.hok, rv, q⟩
  cases fl with
  | ret u =>
    obtain ⟨v, σ', H', J, rv, q⟩ := hs
    exact fin J rv q
  | next =>
    obtain ⟨σ', H', J, q⟩ := hs
    exact fin (v := V.non) (u := Value.none) J rfl q
  | brk =>
    obtain ⟨_, _, _, q⟩ := hs
    exact False.elim q
  | cont =>
    obtain ⟨_, _, _, q⟩ := hs
    exact False.elim q
/-- THE RULE for a def of the text -/
theorem okG {x qual : Str} {st : Stmt} {fd : FuncData} {N ps : List Str} {sp : Sp} (F : Fun K x qual st f fd) (S : FnScope N ps (defScope st)) (len : ∀ vs H Q E, sp vs H Q E → vs.length = ps.length)
    (hbody : ∀ (cdv : Value) (A : Around) (outer : List Env) (s : Shared) (H : Hp) (vs : List V) (Q : VK) (E : XK), Room k (A.deeper (envOfC qual (defScope st) s.heap.objs.size f cdv)) → (A.deeper (envOfC qual (defScope st) s.heap.objs.size f cdv)).guards = some [] → sp vs H Q E →
      ∃ t, PSs (cxOf CX0 P w K mg base N qual (defScope st) f cdv A outer s H E).nox (defBody st) t ∧ t { nx := fun _ H' => Q .non H', rt := Q } (start N vs) H) : FnG P w K mg base (k + 1) f fd ps sp := by
  obtain ⟨oc, od, kV, doc, pm, an, cdv, ct, osl, rfl, lk, hcd⟩ := F.ex
  refine fnG_of lk hcd S len fun A outer s H vs Q E hr hgd hsp => ?_
  obtain ⟨t, h, q⟩ := hbody cdv A outer s H vs Q E hr hgd hsp
  exact ⟨t, h.nox, q⟩
end
/-- a def of the module, called by its name -/
structure CalG (P : Program) (w : World) (K : PySem.W.Frag) (mg : Str → Option Value) (base : Heap) (k : Nat) (x : Str) (sp : Sp) : Prop where
  ex : ∃ (f : Addr) (fd : FuncData) (ps : List Str), FnG P w K mg base k f fd ps sp ∧ mg x = some (.ref f) ∧ PySem.W.keepIn K (.ref f) = true ∧ Binds K fd ps []
section
variable {X : Cx} {k j : Nat} {x : Str} {sp : Sp} {p pos : Pos} {e : Expr} {es : List Expr} {t : TA}
theorem run_fnG {f : Addr} {fd : FuncData} {ps : List Str} {pins : List (Addr × Obj)} {σ : L2.St} {H : Hp} {s : Shared} {Q : VK} {us : List Value} {vs : List V} (F : FnG X.prog X.w X.K X.mg X.base k f fd ps sp) (hr : Room k X.A) (hgd : X.A.guards = some []) (hb : Binds X.K fd ps [])
    (I : Inv X pins σ H s) (r : Vals vs us) (h : sp vs H Q E0) : wpAny (model X.prog X.w) X.A (call (.ref f) us) (EP X pins σ Q) X.xe s := by
  have hl : (us ++ []).length = ps.length := by rw [List.append_nil, ← r.length]; exact F.len _ _ _ _ h
  have hb' := hb s us I.kIn hl
  rw [List.append_nil] at hb'
  refine wpAny_call (codeAny_mono (F.run X.A X.stack s H ⟨us, []⟩ us vs Q E0 hr hgd I.env0 hb' r h) fun r s' hq => ?_)
  cases r with
  | error e => exact False.elim hq
  | ok fl =>
    cases fl with
    | ret u => exact I.after hq
    | next => exact False.elim hq
    | brk => exact False.elim hq
    | cont => exact False.elim hq
def tCallG (sp : Sp) (t : TA) : TE := fun σ H Q => t σ H fun vs H1 => sp vs H1 Q E0
theorem pe_cG (c : CalG X.prog X.w X.K X.mg X.base k x sp) (hr : Room j X.A) (hk : k ≤ j) (hgd : X.A.guards = some []) (hg : Gl X x) (ha : PA X (e :: es) t)
    (hdb : (x == ("__debug__" : Str)) = false := by decide) (he : starEach (e :: es) X.env = (false, eval e X.env) :: starEach es X.env := by rfl) (hpl : (backTo pos (starEach es X.env)).any (·.1) = false := by rfl) :
    PE X (.Call (.Name x p) (e :: es) [] pos) (tCallG sp t) := by
  obtain ⟨f, fd, ps, F, hm, kp, b⟩ := c.ex
  refine ⟨fun pins s σ H Q I h => ?_⟩
  refine wpAny_Call_Name_kw (ld_glob I hg hm ?_ hdb)
  refine PySem.W.callWith_K (h₀ := X.base) I.ok.mod.kin kp (thn (ha.run pos pins s σ H _ I h) fun us s1 ⟨vs, H1, I1, r, q⟩ => ⟨I1.kIn, ?_⟩) he hpl
  exact run_fnG F (hr.mono hk) hgd b I1 r q

/-- a def of the module whose promise hangs on nothing that is shown -/
structure CalO (P : Program) (w : World) (K : PySem.W.Frag) (mg : Str → Option Value) (base : Heap) (k : Nat) (x : Str) (sp : Sp) : Prop where
  ex : ∃ (f : Addr) (fd : FuncData) (ps : List Str), FnOk P w K mg base CX0 k f fd ps sp ∧ mg x = some (.ref f) ∧ PySem.W.keepIn K (.ref f) = true ∧ Binds K fd ps []
theorem pe_cO (c : CalO X.prog X.w X.K X.mg X.base k x sp) (hr : Room j X.A) (hk : k ≤ j) (hg : Gl X x) (ha : PA X (e :: es) t)
    (hdb : (x == ("__debug__" : Str)) = false := by decide) (he : starEach (e :: es) X.env = (false, eval e X.env) :: starEach es X.env := by rfl) (hpl : (backTo pos (starEach es X.env)).any (·.1) = false := by rfl) :
    PE X (.Call (.Name x p) (e :: es) [] pos) (tCallG sp t) := by
  obtain ⟨f, fd, ps, F, hm, kp, b⟩ := c.ex
  have z := pe_call (pos := pos) (p := p) F (hr.mono hk) hg hm kp b .nil pass0 ha hdb he hpl
  have et : tCall sp [] E0 t = tCallG sp t := by
    funext σ H Q
    show t σ H _ = t σ H _
    congr 1
    funext vs H1
    rw [List.append_nil]
  rw [← et]
  exact z

/-! ### repr of data -/
theorem call_reprD (hgd : X.A.guards = some []) (hu : X.A.units + 64 < cLine) :
    CallR X (.builtin "repr") (fun xs H Q => ∃ a d, xs = [.ref a] ∧ Dp X.K H (.ref a) d ∧ d.showable = true ∧ d.hasDict = false ∧ d.depth ≤ 60 ∧ d.shown.length ≤ sizeLine ∧ Q (.str d.shown) H) := by
  intro pins s σ H xs us Q I r h
  obtain ⟨a, d, rfl, hd, hs, hnd, hdp, hsz, q⟩ := h
  obtain ⟨u, rfl, ru⟩ := vals1 r
  obtain rfl : u = Value.ref a := ru
  obtain ⟨as, rd⟩ := Dp.reads I d _ _ hd rfl
  refine repr_of_reads' (h₀ := s.heap) rd hs (fun z => by rw [hnd] at z; cases z) hgd (by omega) (fun b o e => e) (fun h' u tk hk => ⟨.str d.shown, H, I.kept (t' := tk) hk, ⟨_, rfl⟩, q⟩) hsz
end
end Pg

/-! Pf: what is known for good (G) within what stands now (H). -/
namespace Pf
open PySem PySem.Spec PyProof.Rows L2 Pg

theorem upd_none_ne {H : Hp} {a b : Addr} {o : HO} (h : b ≠ a) (e : H b = none) : upd H a o b = none := by rw [upd_ne h]; exact e
theorem Same.new {H : Hp} {p : Addr} {o : HO} (h : H p = none) : Same H (upd H p o) := fun a u e => by
  rw [upd_ne (ne_of_none e h)]
  exact e
/-- from (G, H) to (G', H'): nothing that stood has changed; what G' knows anew is new -/
structure Fut (G H G' H' : Hp) : Prop where
  g : Same G G'
  h : Same H H'
  s : Same G' H'
  n : ∀ p, G' p ≠ none → G p ≠ none ∨ H p = none
/-- .. but for what stands at m and q -/
structure FutM (m q : Addr) (G H G' H' : Hp) : Prop where
  g : Same G G'
  h : ∀ p o, H p = some o → p ≠ m → p ≠ q → H' p = some o
  s : Same G' H'
  n : ∀ p, G' p ≠ none → G p ≠ none ∨ H p = none
  k : ∀ p, H' p = none → H p = none
theorem Fut.refl {G H : Hp} (s : Same G H) : Fut G H G H := ⟨Same.refl _, Same.refl _, s, fun _ h => .inl h⟩
theorem Fut.trans {G H G1 H1 G2 H2 : Hp} (a : Fut G H G1 H1) (b : Fut G1 H1 G2 H2) : Fut G H G2 H2 :=
  ⟨a.g.trans b.g, a.h.trans b.h, b.s, fun p h => (b.n p h).elim (a.n p) fun z => .inr (a.h.free z)⟩
/-- a new object, known from now on -/
theorem Fut.new {G H : Hp} {p : Addr} {o : HO} (s : Same G H) (h : H p = none) : Fut G H (upd G p o) (upd H p o) :=
  ⟨Same.new (s.free h), Same.new h, fun b u e => by
    by_cases q : b = p
    · rw [q, upd_same] at e ⊢
      exact e
    · rw [upd_ne q] at e ⊢
      exact s _ _ e, fun b e => by
    by_cases q : b = p
    · exact .inr (q ▸ h)
    · rw [upd_ne q] at e
      exact .inl e⟩
/-- H grew, G as it was -/
theorem Fut.up {G H H' : Hp} (s : Same G H) (h : Same H H') : Fut G H G H' := ⟨Same.refl _, h, s.trans h, fun _ e => .inl e⟩
theorem Fut.m {m q : Addr} {G H G' H' : Hp} (a : Fut G H G' H') : FutM m q G H G' H' := ⟨a.g, fun p o e _ _ => a.h p o e, a.s, a.n, fun p e => a.h.free e⟩
theorem FutM.trans {m q : Addr} {G H G1 H1 G2 H2 : Hp} (a : FutM m q G H G1 H1) (b : FutM m q G1 H1 G2 H2) : FutM m q G H G2 H2 :=
  ⟨a.g.trans b.g, fun p o e h1 h2 => b.h p o (a.h p o e h1 h2) h1 h2, b.s, fun p h => (b.n p h).elim (a.n p) fun z => .inr (a.k p z), fun p e => a.k p (b.k p e)⟩
theorem FutM.refl {m q : Addr} {G H : Hp} (s : Same G H) : FutM m q G H G H := (Fut.refl s).m
/-- the object at l, not known for good, changes -/
theorem Fut.mut {G H : Hp} {l : Addr} {o : HO} (s : Same G H) (hl : G l = none) : Same G (upd H l o) := fun b u e => by
  rw [upd_ne (ne_of_none e hl)]
  exact s _ _ e

mutual
theorem Dp.mono {K : PySem.W.Frag} {H H' : Hp} (e : Same H H') : ∀ (d : PyData) (v : V), Dp K H v d → Dp K H' v d
  | .none, _, h => by cases h; exact .non
  | .bool _, _, h => by cases h; exact .bl _
  | .int _, _, h => by cases h; exact .int _
  | .str _, _, h => by cases h; exact .str _
  | .list ds, _, h => by
    cases h with
    | lst a b => exact .lst (Same.seq e a) (DpAll.mono e ds _ b)
  | .tuple ds, _, h => by
    cases h with
    | tup a b => exact .tup (Evl.ex_t e a) (DpAll.mono e ds _ b)
  | .dict _, _, h => by cases h
theorem DpAll.mono {K : PySem.W.Frag} {H H' : Hp} (e : Same H H') : ∀ (ds : List PyData) (vs : List V), DpAll K H vs ds → DpAll K H' vs ds
  | [], _, h => by cases h; exact .nil
  | d :: ds, _, h => by
    cases h with
    | cons a b => exact .cons (Dp.mono e d _ a) (DpAll.mono e ds _ b)
end
theorem DpAll.ints {K : PySem.W.Frag} {H : Hp} : ∀ (ns : List Int), DpAll K H (ns.map V.int) (ns.map PyData.int)
  | [] => .nil
  | n :: ns => .cons (.int n) (DpAll.ints ns)
theorem DpAll.len {K : PySem.W.Frag} {H : Hp} : ∀ {vs : List V} {ds : List PyData}, DpAll K H vs ds → vs.length = ds.length
  | _, _, .nil => rfl
  | _, _, .cons _ b => by rw [List.length_cons, List.length_cons, DpAll.len b]
theorem DpAll.at {K : PySem.W.Frag} {H : Hp} : ∀ {vs : List V} {ds : List PyData} {i : Nat} {d : PyData}, DpAll K H vs ds → ds[i]? = some d → ∃ v, vs[i]? = some v ∧ Dp K H v d
  | _, _, 0, d, .cons a b, h => ⟨_, rfl, by
    have e := Option.some.inj h
    rw [← e]
    exact a⟩
  | _, _, i + 1, d, .cons a b, h => DpAll.at (i := i) b h
  | _, _, i, d, .nil, h => by simp at h
theorem DpAll.at' {K : PySem.W.Frag} {H : Hp} : ∀ {vs : List V} {ds : List PyData} {i : Nat} {v : V}, DpAll K H vs ds → vs[i]? = some v → ∃ d, ds[i]? = some d ∧ Dp K H v d
  | _, _, 0, d, .cons a b, h => ⟨_, rfl, by
    have e := Option.some.inj h
    rw [← e]
    exact a⟩
  | _, _, i + 1, d, .cons a b, h => DpAll.at' (i := i) b h
  | _, _, i, d, .nil, h => by simp at h
theorem DpAll.snoc {K : PySem.W.Frag} {H : Hp} : ∀ {vs : List V} {ds : List PyData} {v : V} {d : PyData}, DpAll K H vs ds → Dp K H v d → DpAll K H (vs ++ [v]) (ds ++ [d])
  | _, _, _, _, .nil, h => .cons h .nil
  | _, _, _, _, .cons a b, h => .cons a (DpAll.snoc b h)
theorem DpAll.app {K : PySem.W.Frag} {H : Hp} : ∀ {vs ws : List V} {ds es : List PyData}, DpAll K H vs ds → DpAll K H ws es → DpAll K H (vs ++ ws) (ds ++ es)
  | _, _, _, _, .nil, h => h
  | _, _, _, _, .cons a b, h => .cons a (DpAll.app b h)

/-! ### the state from which all numbers are drawn -/
abbrev kc : Key := Sum.inr ("cells" : Str)
abbrev kg : Key := Sum.inr ("great" : Str)
abbrev ks : Key := Sum.inr ("spot" : Str)
structure MAt (G H : Hp) (m c q : Addr) (b : Nat) : Prop where
  s : Same G H
  gm : G m = none
  gc : G c = none
  gq : G q = none
  ob : ∃ n : Int, H m = some (.dK [(kc, .ref c), (kg, .ref q), (ks, .int n)]) ∧ 0 ≤ n ∧ n ≤ b
  cs : ∃ cs : List Int, H c = some (.lst (cs.map V.int)) ∧ cs.length = 64
  gs : ∃ gs : List Int, H q = some (.lst (gs.map V.int)) ∧ gs.length ≤ 63
  cq : c ≠ q
theorem MAt.mono {G H : Hp} {m c q : Addr} {b b' : Nat} (M : MAt G H m c q b) (h : b ≤ b') : MAt G H m c q b' :=
  ⟨M.s, M.gm, M.gc, M.gq, let ⟨n, a, h0, h1⟩ := M.ob; ⟨n, a, h0, by omega⟩, M.cs, M.gs, M.cq⟩
theorem MAt.fut {G H G' H' : Hp} {m c q : Addr} {b : Nat} (M : MAt G H m c q b) (f : Fut G H G' H') : MAt G' H' m c q b := by
  obtain ⟨n, a, h0, h1⟩ := M.ob
  obtain ⟨cs, b1, b2⟩ := M.cs
  obtain ⟨gs, c1, c2⟩ := M.gs
  have no : ∀ p o, G p = none → H p = some o → G' p = none := fun p o e1 e2 => by
    cases e : G' p with
    | none => rfl
    | some z =>
      rcases f.n p (by rw [e]; simp) with x | x
      · exact absurd e1 x
      · rw [e2] at x
        cases x
  exact ⟨f.s, no _ _ M.gm a, no _ _ M.gc b1, no _ _ M.gq c1, ⟨n, f.h _ _ a, h0, h1⟩, ⟨cs, f.h _ _ b1, b2⟩, ⟨gs, f.h _ _ c1, c2⟩, M.cq⟩
end Pf

namespace W2
open PySem PySem.Spec PyProof.Rows L2 Pg Pf
def top (i : Nat) : Stmt := PySem.Challenge.pw_passplaces_k02_ways_read.main.body.getD i (.Pass ⟨0, 0, 0, 0⟩)
abbrev s__law_mixed : Stmt := top 17
abbrev N__law_mixed : List Str := ["_law_cell", "_law_n", "_law_turned"]
theorem sc__law_mixed : FnScope N__law_mixed ["_law_cell", "_law_n"] (defScope s__law_mixed) := ⟨rfl, rfl, rfl, by decide +kernel, rfl, by decide +kernel, by decide +kernel⟩
abbrev s__law_folded : Stmt := top 18
abbrev N__law_folded : List Str := ["_law_script", "_law_n", "_law_found", "_law_cell"]
theorem sc__law_folded : FnScope N__law_folded ["_law_script"] (defScope s__law_folded) := ⟨rfl, rfl, rfl, by decide +kernel, rfl, by decide +kernel, by decide +kernel⟩
/-- the built-in names that the text reads -/
structure Bt (mg : Str → Option Value) : Prop where
  range : mg "range" = none
  enumerate : mg "enumerate" = none
  len : mg "len" = none
  tuple : mg "tuple" = none
  max : mg "max" = none
  min : mg "min" = none
  repr : mg "repr" = none
  zip : mg "zip" = none
section
variable {P : Program} {w : World} {K : PySem.W.Frag} {mg : Str → Option Value} {base : Heap} {f : Addr} {fd : FuncData}
def spMixed : Sp := fun vs H Q _ => ∃ c n : Int, vs = [.int c, .int n] ∧ 0 ≤ n ∧ n < 2 ^ 60 ∧ ∀ r, Q (.int r) H
theorem ok_mixed (F : Fun K "_law_mixed" "_law_mixed" s__law_mixed f fd) : FnG P w K mg base 2 f fd ["_law_cell", "_law_n"] spMixed := by
  refine okG F sc__law_mixed (fun vs H Q E h => ?_) (fun cdv A outer s H vs Q E hr hgd h => ?_)
  · obtain ⟨c, n, rfl, _⟩ := h
    rfl
  · obtain ⟨c, n, rfl, h0, h1, k⟩ := h
    have nd := sc__law_mixed.nd
    refine ⟨_, (pss_cons (ps_set (i := 2) nd rfl (Or.inl rfl) (pe_op op_add (pe_op op_add (pe_op op_mod (pe_op op_mul (pe_op op_mul (pv 0) (pe_op op_add pe_int (pe_op op_mul pe_int (pv 1)))) pe_int) pe_int) (pe_op op_mul (pe_op op_mul pe_int (pv 1)) (pv 1))) (pe_op op_mul pe_int (pv 1))))
    (pss_one (ps_ret (pe_op op_fdiv (pe_op op_mod (pe_op op_mul (pv 2) pe_int) pe_int) pe_int)))), ?_⟩
    refine ⟨_, rfl, _, rfl, _, _, rfl, rfl, .inl (by decide), _, _, rfl, rfl, _, _, rfl, rfl, .inr (by constructor <;> omega), _, _, rfl, rfl, .inr (by decide), _, _, rfl, rfl, (by show (0 : Int) < 2147483647; decide), ?_⟩
    refine ⟨_, rfl, _, _, rfl, rfl, .inl (by decide), _, rfl, _, _, rfl, rfl, .inr (by constructor <;> omega), _, _, rfl, rfl, _, rfl, _, _, rfl, rfl, .inl (by decide), _, _, rfl, rfl, ?_⟩
    refine ⟨_, rfl, _, _, rfl, rfl, .inr (by decide), _, _, rfl, rfl, (by show (0 : Int) < 2147483629; decide), _, _, rfl, rfl, ⟨by decide, by decide⟩, k _⟩
def spFolded (K : PySem.W.Frag) : Sp := fun vs H Q _ => ∃ (a : Addr) (ns : List Int), vs = [.ref a] ∧ SqL K H a (ns.map V.int) ∧ ns.length ≤ 63 ∧
  ∀ (l : Addr) (cs : List Int) (H' : Hp), H l = none → Same H H' → H' l = some (.lst (cs.map V.int)) → cs.length = 64 → Q (.ref l) H'
theorem ok_folded (T : Bt mg) (F : Fun K "_law_folded" "_law_folded" s__law_folded f fd) : FnG P w K mg base 2 f fd ["_law_script"] (spFolded K) := by
  refine okG F sc__law_folded (fun vs H Q E h => ?_) (fun cdv A outer s H vs Q E hr hgd h => ?_)
  · obtain ⟨a, ns, rfl, _⟩ := h
    rfl
  · obtain ⟨a, ns, rfl, hS, hl, k⟩ := h
    have nd := sc__law_folded.nd
    refine ⟨_, (pss_cons (ps_setLc (i := 2) (own := [("_law_n", 1)]) rfl nd rfl rfl (sw_true rfl rfl rfl (by decide +kernel)) (pi_range1 rfl T.range (pa_cons pe_int pa_nil)) (blkOk_by (N := N__law_folded) (sc := defScope s__law_folded) (by decide +kernel)) (fun _ _ _ _ _ => (pg_name (i := 1) nd rfl (Or.inl rfl))) (fun _ _ _ _ _ => pts_nil) (fun _ _ _ _ _ => (pe_op op_add pe_int (pv 1))))
    (pss_cons (ps_for PassesOwn.never rfl (pi_enum (by rfl) T.enumerate (pa_cons (pv 0) pa_nil)) (pg_tup rfl (pgs_cons (pg_name (i := 1) nd rfl (Or.inl rfl)) (pgs_cons (pg_name (i := 3) nd rfl (Or.inl rfl)) pgs_nil)))
    (pss_one (ps_asg (pe_op op_mod (pe_op op_add (pe_op op_mul (pe_ix ix_list (pv 2) (pe_op op_mod (pv 1) pe_int) (fun _ _ => rfl)) pe_int) (pv 3)) pe_int) (pg_sub (pv 2) (pe_op op_mod (pv 1) pe_int) set_list))))
    (pss_cons (ps_for PassesOwn.never rfl (pi_range2 rfl T.range (pa_cons pe_int (pa_cons pe_int pa_nil))) (pg_name (i := 1) nd rfl (Or.inl rfl))
    (pss_one (ps_asg (pe_op op_mod (pe_op op_add (pe_ix ix_list (pv 2) (pv 1) (fun _ _ => rfl)) (pe_op op_mul (pe_ix ix_list (pv 2) (pe_op op_sub (pv 1) pe_int) (fun _ _ => rfl)) pe_int)) pe_int) (pg_sub (pv 2) (pv 1) set_list))))
    (pss_one (ps_ret (pv 2)))))), ?_⟩
    refine ⟨64, rfl, by decide, by decide, fun D hD => lc_range (lo := 0) (n := 64) (fun i H2 => ∃ acc : List Int, H2 D = some (.lst (acc.map V.int)) ∧ acc.length = i ∧ Same H H2) ⟨[], upd_same, rfl, Same.new hD⟩ ?_ ?_⟩
    · rintro i H2 hi ⟨acc, hA, ha, hs⟩
      refine ⟨rfl, ?_⟩
      refine ⟨_, rfl, _, _, rfl, rfl, _, hA, small1000 (by rw [List.length_map]; omega), acc ++ [17 + (0 + (i : Int))], ?_, by rw [List.length_append, ha] <;> rfl, Fut.mut hs hD⟩
      rw [upd_same, List.map_append]
      rfl
    · rintro H2 ⟨acc, hA, ha, hs⟩
      refine ⟨_, rfl, a, ns.map V.int, rfl, hs.seq hS, for_it walk_enum (fun i σ H3 => ∃ (cs : List Int) (v1 v3 : Option V), σ = [some (.ref a), v1, some (.ref D), v3] ∧ H3 D = some (.lst (cs.map V.int)) ∧ cs.length = 64 ∧ Same H H3)
        ⟨acc, none, none, rfl, hA, ha, hs⟩ (fun i σ H3 _ ⟨_, _, _, _, _, _, s3⟩ => s3.seq hS) ?_ ?_⟩
      · rintro i x σ H3 H4 hi ⟨cs, v1, v3, rfl, hC, hc, s3⟩ ⟨T', x1, y1, rfl, hT, rfl, e1, e2⟩
        obtain rfl := Option.some.inj e1
        replace e2 : (ns.map V.int)[i]? = some y1 := e2
        rw [List.getElem?_map] at e2
        obtain ⟨z, hz, rfl⟩ : ∃ z, ns[i]? = some z ∧ y1 = V.int z := by
          cases e : ns[i]? with
          | none =>
            rw [e] at e2
            cases e2
          | some z =>
            rw [e] at e2
            exact ⟨z, rfl, (Option.some.inj e2).symm⟩
        have hD4 : (upd H3 T' (.tup [V.int (i : Nat), V.int z])) D = some (.lst (cs.map V.int)) := by
          rw [upd_ne (ne_of_none hC hT)]
          exact hC
        have hi64 : i % 64 < cs.length := by omega
        obtain ⟨c0, hc0⟩ : ∃ c0, cs[i % 64]? = some c0 := ⟨_, List.getElem?_eq_getElem hi64⟩
        refine ⟨T', _, rfl, SqT.of upd_same, rfl, _, _, rfl, _, _, rfl, rfl, ?_⟩
        refine ⟨_, rfl, _, rfl, _, _, rfl, rfl, (by show (0 : Int) < 64; decide), D, _, _, V.int c0, rfl, rfl, SqL.of hD4, at_of (j := i % 64) (by omega) (by rw [List.getElem?_map, hc0] <;> rfl), _, _, rfl, rfl, .inr (by decide), _, rfl, _, _, rfl, rfl, _, _, rfl, rfl, (by show (0 : Int) < 2147483647; decide), ?_⟩
        refine ⟨_, rfl, _, rfl, _, _, rfl, rfl, (by show (0 : Int) < 64; decide), D, _, _, i % 64, rfl, rfl, hD4, ?_, ?_⟩
        · unfold ixN
          rw [if_pos (by omega), if_pos (by rw [List.length_map]; omega)]
          exact congrArg some (by omega)
        · refine ⟨cs.set (i % 64) ((c0 * 48271 + z) % 2147483647), _, _, rfl, ?_, by rw [List.length_set]; exact hc, ?_⟩
          · rw [upd_same, List.map_set]
          · exact Fut.mut (s3.trans (Same.new hT)) hD
      · rintro σ H3 ⟨cs, v1, v3, rfl, hC, hc, s3⟩
        refine ⟨1, 64, rfl, by decide, for_range (lo := 1) (n := 63) (fun i σ H4 => ∃ (cs : List Int) (v1 v3 : Option V), σ = [some (.ref a), v1, some (.ref D), v3] ∧ H4 D = some (.lst (cs.map V.int)) ∧ cs.length = 64 ∧ Same H H4) ⟨cs, v1, v3, rfl, hC, hc, s3⟩ ?_ ?_⟩
        · rintro i σ H4 hi ⟨cs, v1, v3, rfl, hC, hc, s4⟩
          obtain ⟨c1, hc1⟩ : ∃ c1, cs[i + 1]? = some c1 := ⟨_, List.getElem?_eq_getElem (by omega)⟩
          obtain ⟨c0, hc0⟩ : ∃ c0, cs[i]? = some c0 := ⟨_, List.getElem?_eq_getElem (by omega)⟩
          refine ⟨_, rfl, _, rfl, D, _, _, V.int c1, rfl, rfl, SqL.of hC, at_of (j := i + 1) (by omega) (by rw [List.getElem?_map, hc1] <;> rfl), _, rfl, _, rfl, _, _, rfl, rfl, D, _, _, V.int c0, rfl, rfl, SqL.of hC, at_of (j := i) (by omega) (by rw [List.getElem?_map, hc0] <;> rfl),
            _, _, rfl, rfl, .inr (by decide), _, _, rfl, rfl, _, _, rfl, rfl, (by show (0 : Int) < 2147483647; decide), ?_⟩
          refine ⟨_, rfl, _, rfl, D, _, _, i + 1, rfl, rfl, hC, ?_, ?_⟩
          · unfold ixN
            rw [if_pos (by omega), if_pos (by rw [List.length_map]; omega)]
            exact congrArg some (by omega)
          · refine ⟨cs.set (i + 1) ((c1 + c0 * 16807) % 2147483647), _, _, rfl, ?_, by rw [List.length_set]; exact hc, Fut.mut s4 hD⟩
            rw [upd_same, List.map_set]
        · rintro σ H4 ⟨cs, v1, v3, rfl, hC, hc, s4⟩
          exact ⟨_, rfl, k D cs H4 hD s4 hC hc⟩
theorem kcs : ¬ kc = ks := by decide
theorem kgs : ¬ kg = ks := by decide
theorem kcg : ¬ kc = kg := by decide
theorem ksg : ¬ ks = kg := by decide
theorem val_spot (c q : Addr) (n : V) : valV ([(kc, .ref c), (kg, .ref q), (ks, n)] : List (Key × V)) ks = some n := by
  rw [valV_neg kcs, valV_neg kgs, valV_pos rfl]
theorem val_great (c q : Addr) (n : V) : valV ([(kc, .ref c), (kg, .ref q), (ks, n)] : List (Key × V)) kg = some (.ref q) := by
  rw [valV_neg kcg, valV_pos rfl]
theorem val_cells (c q : Addr) (n : V) : valV ([(kc, .ref c), (kg, .ref q), (ks, n)] : List (Key × V)) kc = some (.ref c) := by
  rw [valV_pos rfl]
theorem put_spot (c q : Addr) (n z : V) : putK ([(kc, .ref c), (kg, .ref q), (ks, n)] : List (Key × V)) ks z = [(kc, .ref c), (kg, .ref q), (ks, z)] := by
  have e : (([(kc, .ref c), (kg, .ref q), (ks, n)] : List (Key × V)).any fun kv => decide (kv.1 = ks)) = true := by
    rw [valV_any, val_spot]
    rfl
  unfold putK
  rw [if_pos e]
  simp only [List.map_cons, List.map_nil, if_neg kcs, if_neg kgs, if_pos]
theorem put_great (c q : Addr) (n z : V) : putK ([(kc, .ref c), (kg, .ref q), (ks, n)] : List (Key × V)) kg z = [(kc, .ref c), (kg, z), (ks, n)] := by
  have e : (([(kc, .ref c), (kg, .ref q), (ks, n)] : List (Key × V)).any fun kv => decide (kv.1 = kg)) = true := by
    rw [valV_any, val_great]
    rfl
  unfold putK
  rw [if_pos e]
  simp only [List.map_cons, List.map_nil, if_neg kcg, if_neg ksg, if_pos]
theorem merge_m (c q : Addr) (n : V) : mergeK [] ([(kc, .ref c), (kg, .ref q), (ks, n)] : List (Key × V)) = [(kc, .ref c), (kg, .ref q), (ks, n)] := by
  have e1 : putK ([] : List (Key × V)) kc (.ref c) = [(kc, .ref c)] := putK_new _ rfl
  have e2 : putK ([(kc, .ref c)] : List (Key × V)) kg (.ref q) = [(kc, .ref c), (kg, .ref q)] := putK_new _ (by rw [valV_neg kcg]; rfl)
  have e3 : putK ([(kc, .ref c), (kg, .ref q)] : List (Key × V)) ks n = [(kc, .ref c), (kg, .ref q), (ks, n)] := putK_new _ (by rw [valV_neg kcs, valV_neg kgs]; rfl)
  show putK (putK (putK [] kc (.ref c)) kg (.ref q)) ks n = _
  rw [e1, e2, e3]
theorem dget {H : Hp} {a : Addr} {kvs : List (Key × V)} {k : Key} {v : V} (h : H a = some (.dK kvs)) (e : valV kvs k = some v) : DGet H a (kV k) (some v) := by
  have z := DGet.k (k := k) h
  rw [e] at z
  exact z
theorem eqv_nil (gs : List Int) : PyData.eqv (.list (gs.map PyData.int)) (.list []) = gs.isEmpty := by cases gs <;> rfl
theorem lay_ints : ∀ gs : List Int, PyData.canLayAll0 (gs.map PyData.int) = true
  | [] => rfl
  | g :: gs => by
    rw [List.map_cons]
    show (true && PyData.canLayAll0 (gs.map PyData.int)) = true
    rw [lay_ints gs]
    rfl
theorem depth_ints : ∀ gs : List Int, PyData.depthAll (gs.map PyData.int) = 0
  | [] => rfl
  | g :: gs => by
    rw [List.map_cons]
    show max 0 (PyData.depthAll (gs.map PyData.int)) = 0
    rw [depth_ints gs]
    rfl
theorem shaped_ints (gs : List Int) : SeqAt.shaped (.list (gs.map PyData.int)) = true := by
  show (PyData.canLayAll0 (gs.map PyData.int) && decide (PyData.depthAll (gs.map PyData.int) + 1 ≤ 64)) = true
  rw [lay_ints, depth_ints]
  rfl
/-- draw(m, top) -/
def spDraw : Sp := fun vs H Q _ => ∃ (G : Hp) (m c q : Addr) (b : Nat) (top : Int), vs = [.ref m, .int top] ∧ MAt G H m c q b ∧ b ≤ 1000000000 ∧ 1 ≤ top ∧ top ≤ 1000 ∧
  ∀ (r : Int) (H' : Hp), 0 ≤ r → r < top → FutM m q G H G H' → MAt G H' m c q (b + 1) → Q (.int r) H'
abbrev s__law_draw : Stmt := top 19
abbrev N__law_draw : List Str := ["_law_m", "_law_top", "_law_n", "_law_at", "_law_cell"]
theorem sc__law_draw : FnScope N__law_draw ["_law_m", "_law_top"] (defScope s__law_draw) := ⟨rfl, rfl, rfl, by decide +kernel, rfl, by decide +kernel, by decide +kernel⟩
section
variable {P : Program} {w : World} {K : PySem.W.Frag} {mg : Str → Option Value} {base : Heap} {f : Addr} {fd : FuncData}
theorem ok_draw (T : Bt mg) (cM : CalG P w K mg base 2 "_law_mixed" spMixed) (F : Fun K "_law_draw" "_law_draw" s__law_draw f fd) : FnG P w K mg base 3 f fd ["_law_m", "_law_top"] spDraw := by
  refine okG F sc__law_draw (fun vs H Q E h => ?_) (fun cdv A outer s H vs Q E hr hgd h => ?_)
  · obtain ⟨G, m, c, q, b, tp, rfl, _⟩ := h
    rfl
  · obtain ⟨G, m, c, q, b, tp, rfl, M, hb, ht1, ht2, k⟩ := h
    have nd := sc__law_draw.nd
    have hu := hu_of hr
    refine ⟨_, (pss_cons (ps_set (i := 2) nd rfl (Or.inl rfl) (pe_dget hu (pv 0) pe_str (fun _ _ => rfl)))
    (pss_cons (ps_dput hu (pv 0) pe_str (pe_op op_add (pv 2) pe_int) rfl)
    (pss_cons (ps_if (pt_cmpR (op_neD hr.units) (pe_dget hu (pv 0) pe_str (fun _ _ => rfl)) (pe_lst pa_nil) (nomark _)) (pss_cons (ps_set (i := 3) nd rfl (Or.inl rfl) (pe_op op_mod (pv 2) (pe_callB call_len_seq (by rfl) T.len PySem.boot_len (pa_cons (pe_dget hu (pv 0) pe_str (fun _ _ => rfl)) pa_nil))))
    (pss_cons (ps_set (i := 4) nd rfl (Or.inl rfl) (pe_ix ix_list (pe_dget hu (pv 0) pe_str (fun _ _ => rfl)) (pv 3) (fun _ _ => rfl)))
    (pss_one (ps_if (pt_cmpR op_gt (pv 4) pe_int (nomark _)) (pss_cons (ps_asg (pe_op op_fdiv (pv 4) (pv 1)) (pg_sub (pe_dget hu (pv 0) pe_str (fun _ _ => rfl)) (pv 3) set_list))
    (pss_one (ps_ret (pe_op op_mod (pv 4) (pv 1))))) pss_nil)))) pss_nil)
    (pss_one (ps_ret (pe_op op_mod (pe_cG cM hr (by decide) hgd rfl (pa_cons (pe_cG cM hr (by decide) hgd rfl (pa_cons (pe_op op_add (pe_ix ix_list (pe_dget hu (pv 0) pe_str (fun _ _ => rfl)) (pe_op op_mod (pv 2) pe_int) (fun _ _ => rfl)) (pe_op op_mul pe_int (pe_op op_fdiv (pv 2) pe_int))) (pa_cons (pv 2) pa_nil))) (pa_cons (pe_op op_add (pv 2) pe_int) pa_nil))) (pv 1))))))), ?_⟩
    obtain ⟨n, hm, hn0, hnb⟩ := M.ob
    obtain ⟨cs, hc, hcl⟩ := M.cs
    obtain ⟨gs, hg, hgl⟩ := M.gs
    have mc : c ≠ m := (ne_of hm hc (by intro z; cases z)).symm
    have mq : q ≠ m := (ne_of hm hg (by intro z; cases z)).symm
    refine ⟨_, rfl, m, _, rfl, dget (k := ks) hm (val_spot _ _ _), ?_⟩
    refine ⟨_, rfl, _, _, rfl, rfl, _, rfl, m, _, rfl, DPut.k (k := ks) hm (small1000 (by show 3 ≤ 1000; decide)), ?_⟩
    rw [put_spot]
    have M1 : MAt G (upd H m (.dK [(kc, .ref c), (kg, .ref q), (ks, .int (n + 1))])) m c q (b + 1) :=
      ⟨Fut.mut M.s M.gm, M.gm, M.gc, M.gq, ⟨n + 1, upd_same, by omega, by omega⟩, ⟨cs, by rw [upd_ne mc]; exact hc, hcl⟩, ⟨gs, by rw [upd_ne mq]; exact hg, hgl⟩, M.cq⟩
    have hm1 : (upd H m (.dK [(kc, .ref c), (kg, .ref q), (ks, .int (n + 1))])) m = some (.dK [(kc, .ref c), (kg, .ref q), (ks, .int (n + 1))]) := upd_same
    have hg1 : (upd H m (.dK [(kc, .ref c), (kg, .ref q), (ks, .int (n + 1))])) q = some (.lst (gs.map V.int)) := by rw [upd_ne mq]; exact hg
    have hc1 : (upd H m (.dK [(kc, .ref c), (kg, .ref q), (ks, .int (n + 1))])) c = some (.lst (cs.map V.int)) := by rw [upd_ne mc]; exact hc
    have F1 : FutM m q G H G (upd H m (.dK [(kc, .ref c), (kg, .ref q), (ks, .int (n + 1))])) :=
      ⟨Same.refl _, fun p o e h1 _ => by rw [upd_ne h1]; exact e, M1.s, fun p e => .inl e, fun p e => by
        by_cases z : p = m
        · rw [z, upd_same] at e
          cases e
        · rw [upd_ne z] at e
          exact e⟩
    show tSeq _ _ _ [some (.ref m), some (.int tp), some (.int n), none, none] (upd H m (.dK [(kc, .ref c), (kg, .ref q), (ks, .int (n + 1))]))
    generalize (upd H m (.dK [(kc, .ref c), (kg, .ref q), (ks, .int (n + 1))])) = H1 at M1 hm1 hg1 hc1 F1 ⊢
    refine ⟨_, rfl, m, _, rfl, dget (k := kg) hm1 (val_great _ _ _), (by show 0 ≤ sizeLine; decide), fun p hp => ⟨_, _, .lst (SqL.of (by rw [upd_ne (ne_of_none hg1 hp)]; exact hg1)) (DpAll.ints gs), .lst (SqL.of upd_same) .nil, shaped_ints gs, rfl, _, rfl, ?_⟩⟩
    have s2 : Same H1 (upd H1 p (.lst [])) := Same.new hp
    generalize (upd H1 p (.lst [])) = H2 at s2 ⊢
    have M2 := M1.fut (Fut.up M1.s s2)
    have F2 := F1.trans (Fut.up M1.s s2).m
    have hm2 := s2 _ _ hm1
    have hg2 := s2 _ _ hg1
    have hc2 := s2 _ _ hc1
    have hi : (n % 64).toNat < cs.length := by omega
    obtain ⟨c0, hc0⟩ : ∃ c0, cs[(n % 64).toNat]? = some c0 := ⟨_, List.getElem?_eq_getElem hi⟩
    rw [eqv_nil]
    cases gs with
    | nil =>
      refine iteF ?_
      refine ⟨_, rfl, m, _, rfl, dget (k := kc) hm2 (val_cells _ _ _), _, rfl, _, _, rfl, rfl, (by show (0 : Int) < 64; decide), c, _, _, V.int c0, rfl, rfl, SqL.of hc2, at_of (j := (n % 64).toNat) (by omega) (by rw [List.getElem?_map, hc0] <;> rfl), _, rfl, _, _, rfl, rfl, ⟨by decide, by decide⟩, _, _, rfl, rfl, .inl (by decide), _, _, rfl, rfl, _, rfl,
        _, _, rfl, hn0, by omega, fun r1 => ⟨_, rfl, _, _, rfl, rfl, _, _, rfl, by omega, by omega, fun r2 => ⟨_, rfl, _, _, rfl, rfl, (by show (0 : Int) < tp; omega), ?_⟩⟩⟩
      exact k _ _ (Int.emod_nonneg _ (by omega)) (Int.emod_lt_of_pos _ (by omega)) F2 M2
    | cons g0 gr =>
      refine iteT ?_
      have hpos : (0 : Int) < ((g0 :: gr).length : Nat) := by rw [List.length_cons]; omega
      have hlt := Int.emod_lt_of_pos n hpos
      have hge := Int.emod_nonneg n (Int.ne_of_gt hpos)
      generalize hgs : g0 :: gr = gs at hpos hlt hge hg2 hgl hg
      obtain ⟨g1, hg1'⟩ : ∃ g1, gs[(n % (gs.length : Nat)).toNat]? = some g1 := ⟨_, List.getElem?_eq_getElem (by omega)⟩
      refine ⟨_, rfl, _, rfl, m, _, rfl, dget (k := kg) hm2 (val_great _ _ _), q, _, rfl, .inl (SqL.of hg2), _, _, rfl, rfl, (by rw [List.length_map]; exact hpos), ?_⟩
      refine ⟨_, rfl, m, _, rfl, dget (k := kg) hm2 (val_great _ _ _), _, rfl, q, _, _, V.int g1, rfl, rfl, SqL.of hg2, at_of (j := (n % (gs.length : Nat)).toNat) (by rw [List.length_map]; omega) (by rw [List.getElem?_map, hg1'] <;> rfl), ?_⟩
      refine ⟨_, rfl, _, _, rfl, rfl, _, rfl, ?_⟩
      by_cases hpg : 0 < g1
      · rw [decide_eq_true hpg]
        refine iteT ?_
        refine ⟨_, rfl, _, rfl, _, _, rfl, rfl, ⟨by omega, by omega⟩, _, rfl, m, _, rfl, dget (k := kg) hm2 (val_great _ _ _), _, rfl, q, _, _, (n % (gs.length : Nat)).toNat, rfl, rfl, hg2, ?_, ?_⟩
        · unfold ixN
          rw [List.length_map, if_pos (by omega), if_pos (by omega)]
        · refine ⟨_, rfl, _, rfl, _, _, rfl, rfl, (by show (0 : Int) < tp; omega), ?_⟩
          have ncq : c ≠ q := M.cq
          have ek : (gs.map V.int).set (n % (gs.length : Nat)).toNat (V.int (g1 / tp)) = (gs.set (n % (gs.length : Nat)).toNat (g1 / tp)).map V.int := by rw [List.map_set]
          show Q (V.int (g1 % tp)) (upd H2 q (.lst ((gs.map V.int).set (n % (gs.length : Nat)).toNat (V.int (g1 / tp)))))
          rw [ek]
          have hqm : m ≠ q := mq.symm
          refine k _ _ (Int.emod_nonneg _ (by omega)) (Int.emod_lt_of_pos _ (by omega)) ?_ ?_
          · exact ⟨Same.refl _, fun p o e h1 h2 => by rw [upd_ne h2]; exact F2.h p o e h1 h2, Fut.mut M2.s M2.gq, fun p e => .inl e, fun p e => by
              by_cases z : p = q
              · rw [z, upd_same] at e
                cases e
              · rw [upd_ne z] at e
                exact F2.k p e⟩
          · obtain ⟨n2, a2, b2, d2⟩ := M2.ob
            exact ⟨Fut.mut M2.s M2.gq, M2.gm, M2.gc, M2.gq, ⟨n2, by rw [upd_ne hqm]; exact a2, b2, d2⟩, ⟨cs, by rw [upd_ne ncq]; exact hc2, hcl⟩, ⟨_, upd_same, by rw [List.length_set]; exact hgl⟩, ncq⟩
      · rw [decide_eq_false hpg]
        refine iteF ?_
        refine ⟨_, rfl, m, _, rfl, dget (k := kc) hm2 (val_cells _ _ _), _, rfl, _, _, rfl, rfl, (by show (0 : Int) < 64; decide), c, _, _, V.int c0, rfl, rfl, SqL.of hc2, at_of (j := (n % 64).toNat) (by omega) (by rw [List.getElem?_map, hc0] <;> rfl), _, rfl, _, _, rfl, rfl, ⟨by decide, by decide⟩, _, _, rfl, rfl, .inl (by decide), _, _, rfl, rfl, _, rfl,
          _, _, rfl, hn0, by omega, fun r1 => ⟨_, rfl, _, _, rfl, rfl, _, _, rfl, by omega, by omega, fun r2 => ⟨_, rfl, _, _, rfl, rfl, (by show (0 : Int) < tp; omega), ?_⟩⟩⟩
        exact k _ _ (Int.emod_nonneg _ (by omega)) (Int.emod_lt_of_pos _ (by omega)) F2 M2
end
/-- begun(script) -/
def spBegun (K : PySem.W.Frag) : Sp := fun vs H Q _ => ∃ (a : Addr) (ns : List Int), vs = [.ref a] ∧ SqL K H a (ns.map V.int) ∧ ns.length ≤ 63 ∧
  ∀ (m c q : Addr) (H' : Hp), Same H H' → MAt H H' m c q 0 → Q (.ref m) H'
abbrev s__law_begun : Stmt := top 20
abbrev N__law_begun : List Str := ["_law_script", "_law_m", "_law_cell"]
theorem sc__law_begun : FnScope N__law_begun ["_law_script"] (defScope s__law_begun) := ⟨rfl, rfl, rfl, by decide +kernel, rfl, by decide +kernel, by decide +kernel⟩
section
variable {P : Program} {w : World} {K : PySem.W.Frag} {mg : Str → Option Value} {base : Heap} {f : Addr} {fd : FuncData}
theorem ok_begun (T : Bt mg) (cF : CalG P w K mg base 2 "_law_folded" (spFolded K)) (F : Fun K "_law_begun" "_law_begun" s__law_begun f fd) : FnG P w K mg base 3 f fd ["_law_script"] (spBegun K) := by
  refine okG F sc__law_begun (fun vs H Q E h => ?_) (fun cdv A outer s H vs Q E hr hgd h => ?_)
  · obtain ⟨a, ns, rfl, _⟩ := h
    rfl
  · obtain ⟨a, ns, rfl, hS, hl, k⟩ := h
    have nd := sc__law_begun.nd
    have hu := hu_of hr
    refine ⟨_, (pss_cons (ps_set (i := 1) nd rfl (Or.inl rfl) (pe_disp (pps_cons pe_str (pe_cG cF hr (by decide) hgd rfl (pa_cons (pv 0) pa_nil)) (pps_cons pe_str (pe_lst pa_nil) (pps_cons pe_str pe_int pps_nil))) (by rfl) (by rfl) (fun z => by cases z) (by decide)))
    (pss_cons (ps_dput hu (pv 1) pe_str (pe_lc (own := [("_law_cell", 2)]) rfl nd (pi_list (pv 0)) (blkOk_by (N := N__law_begun) (sc := defScope s__law_begun) (by decide +kernel)) (fun _ _ _ _ _ => (pg_name (i := 2) nd rfl (Or.inl rfl))) (fun _ _ _ _ _ => pts_nil) (fun _ _ _ _ _ => (pe_ifExp (pt_cmpR op_ge (pv 2) (pe_op op_pow pe_int pe_int) (nomark _)) (pv 2) pe_int))) rfl)
    (pss_one (ps_ret (pv 1))))), ?_⟩
    intro m nm
    have s0 : Same H (upd H m (.dK [])) := Same.new nm
    refine ⟨_, rfl, a, ns, rfl, s0.seq hS, hl, fun c cs H1 nc s1 hc hcl => ?_⟩
    refine ⟨(by show 0 ≤ sizeLine; decide), fun q0 nq0 => ?_⟩
    have s2 : Same H1 (upd H1 q0 (.lst [])) := Same.new nq0
    have hm2 : (upd H1 q0 (.lst [])) m = some (.dK []) := s2 _ _ (s1 _ _ upd_same)
    refine ⟨hm2, [(kc, .ref c), (kg, .ref q0), (ks, .int 0)], rfl, (by show 3 ≤ 15; decide), ?_⟩
    rw [merge_m]
    show tSeq _ _ _ [some (.ref a), some (.ref m), none] _
    have nmc : c ≠ m := fun z => by
      rw [z, upd_same] at nc
      cases nc
    have hc2 := s2 _ _ hc
    have s3 : Same H (upd (upd H1 q0 (.lst [])) m (.dK [(kc, .ref c), (kg, .ref q0), (ks, .int 0)])) := Fut.mut ((s0.trans s1).trans s2) nm
    have hm3 : (upd (upd H1 q0 (.lst [])) m (.dK [(kc, .ref c), (kg, .ref q0), (ks, .int 0)])) m = some (.dK [(kc, .ref c), (kg, .ref q0), (ks, .int 0)]) := upd_same
    have hc3 : (upd (upd H1 q0 (.lst [])) m (.dK [(kc, .ref c), (kg, .ref q0), (ks, .int 0)])) c = some (.lst (cs.map V.int)) := by rw [upd_ne nmc]; exact hc2
    generalize (upd (upd H1 q0 (.lst [])) m (.dK [(kc, .ref c), (kg, .ref q0), (ks, .int 0)])) = H3 at s3 hm3 hc3 ⊢
    refine ⟨_, rfl, a, rfl, ⟨_, s3.seq hS⟩, fun D hD => lc_it walk_list (fun i H4 => ∃ acc : List Int, H4 D = some (.lst (acc.map V.int)) ∧ acc.length = i ∧ Same H3 H4) ⟨[], upd_same, rfl, Same.new hD⟩ (fun i H4 _ ⟨_, _, _, s4⟩ => (s3.trans s4).seq hS) ?_ ?_⟩
    · rintro i x H4 H5 hi ⟨acc, hA, ha, s4⟩ ⟨rfl, hx⟩
      rw [List.length_map] at hi
      obtain ⟨z, hz, rfl⟩ : ∃ z, ns[i]? = some z ∧ x = V.int z := by
        rw [List.getElem?_map] at hx
        cases e : ns[i]? with
        | none =>
          rw [e] at hx
          cases hx
        | some z =>
          rw [e] at hx
          exact ⟨z, rfl, (Option.some.inj hx).symm⟩
      refine ⟨rfl, _, rfl, _, _, rfl, rfl, ⟨by decide, by decide, by decide⟩, _, _, rfl, rfl, _, rfl, ?_⟩
      have nl : (acc.map V.int).length < sizeLine := small1000 (by rw [List.length_map]; omega)
      refine ite2 (fun _ => ?_) (fun _ => ?_)
      · exact ⟨_, rfl, _, hA, nl, acc ++ [z], by rw [upd_same, List.map_append] <;> rfl, by rw [List.length_append, ha] <;> rfl, Fut.mut s4 hD⟩
      · exact ⟨_, hA, nl, acc ++ [0], by rw [upd_same, List.map_append] <;> rfl, by rw [List.length_append, ha] <;> rfl, Fut.mut s4 hD⟩
    · rintro H4 ⟨acc, hA, ha, s4⟩
      refine ⟨_, rfl, m, _, rfl, DPut.k (k := kg) (s4 _ _ hm3) (small1000 (by show 3 ≤ 1000; decide)), ?_⟩
      rw [put_great]
      rw [List.length_map] at ha
      have sF := Fut.mut (s3.trans s4) nm (o := .dK [(kc, .ref c), (kg, .ref D), (ks, .int 0)])
      have nD : D ≠ m := fun z => by
        rw [z, hm3] at hD
        cases hD
      refine ⟨_, rfl, k m c D _ sF ⟨sF, nm, s0.free nc, s3.free hD, ⟨0, upd_same, by decide, by decide⟩, ⟨cs, by rw [upd_ne nmc]; exact s4 _ _ hc3, hcl⟩, ⟨acc, by rw [upd_ne nD]; exact hA, by omega⟩, fun z => ?_⟩⟩
      rw [← z, hc3] at hD
      cases hD
end
end
end W2

namespace W2
open PySem PySem.Spec PyProof.Rows L2 Pg Pf
theorem FutM.mut {m q D : Addr} {G H G' H' : Hp} {o : HO} (f : FutM m q G H G' H') (hD : H D = none) (hG : G' D = none) : FutM m q G H G' (upd H' D o) :=
  ⟨f.g, fun p u e h1 h2 => by rw [upd_ne (ne_of_none e hD)]; exact f.h p u e h1 h2, Fut.mut f.s hG, f.n, fun p e => by
    by_cases z : p = D
    · rw [z]
      exact hD
    · rw [upd_ne z] at e
      exact f.k p e⟩
theorem MAt.ne {G H : Hp} {m c q D : Addr} {b : Nat} (M : MAt G H m c q b) (hD : H D = none) : D ≠ m ∧ D ≠ c ∧ D ≠ q := by
  obtain ⟨n, h1, _⟩ := M.ob
  obtain ⟨cs, h2, _⟩ := M.cs
  obtain ⟨gs, h3, _⟩ := M.gs
  exact ⟨(ne_of_none h1 hD).symm, (ne_of_none h2 hD).symm, (ne_of_none h3 hD).symm⟩
theorem MAt.mut {G H : Hp} {m c q D : Addr} {b : Nat} {o : HO} (M : MAt G H m c q b) (n : D ≠ m ∧ D ≠ c ∧ D ≠ q) (hG : G D = none) : MAt G (upd H D o) m c q b := by
  obtain ⟨n1, n2, n3⟩ := n
  obtain ⟨x, h1, h1'⟩ := M.ob
  obtain ⟨cs, h2, h2'⟩ := M.cs
  obtain ⟨gs, h3, h3'⟩ := M.gs
  exact ⟨Fut.mut M.s hG, M.gm, M.gc, M.gq, ⟨x, by rw [upd_ne n1.symm]; exact h1, h1'⟩, ⟨cs, by rw [upd_ne n2.symm]; exact h2, h2'⟩, ⟨gs, by rw [upd_ne n3.symm]; exact h3, h3'⟩, M.cq⟩
theorem FutM.fresh {m q D : Addr} {G H G' H' : Hp} (f : FutM m q G H G' H') (s : Same G H) (hD : H D ≠ none) (hG : G D = none) : G' D = none := by
  cases e : G' D with
  | none => rfl
  | some o =>
    rcases f.n D (by rw [e]; simp) with z | z
    · exact absurd hG z
    · exact absurd z hD
/-- an ascending, nonempty list of places below many -/
def Cell (many : Int) (ns : List Int) : Prop := ns ≠ [] ∧ ns.Pairwise (· < ·) ∧ ∀ x ∈ ns, 0 ≤ x ∧ x < many
/-- some(m, many, sparse) -/
def spSome : Sp := fun vs H Q _ => ∃ (G : Hp) (m c q : Addr) (b : Nat) (many sparse : Int), vs = [.ref m, .int many, .int sparse] ∧ MAt G H m c q b ∧ b ≤ 900000000 ∧ 1 ≤ many ∧ many ≤ 12 ∧
  ∀ (t : Addr) (ns : List Int) (G' H' : Hp), Cell many ns → FutM m q G H G' H' → MAt G' H' m c q (b + 13) → G' t = some (.tup (ns.map V.int)) → Q (.ref t) H'
abbrev s__law_some : Stmt := top 21
abbrev N__law_some : List Str := ["_law_m", "_law_many", "_law_sparse", "_law_found", "_law_spot"]
theorem sc__law_some : FnScope N__law_some ["_law_m", "_law_many", "_law_sparse"] (defScope s__law_some) := ⟨rfl, rfl, rfl, by decide +kernel, rfl, by decide +kernel, by decide +kernel⟩
section
variable {P : Program} {w : World} {K : PySem.W.Frag} {mg : Str → Option Value} {base : Heap} {f : Addr} {fd : FuncData}
theorem ok_some (T : Bt mg) (cD : CalG P w K mg base 3 "_law_draw" spDraw) (F : Fun K "_law_some" "_law_some" s__law_some f fd) : FnG P w K mg base 4 f fd ["_law_m", "_law_many", "_law_sparse"] spSome := by
  refine okG F sc__law_some (fun vs H Q E h => ?_) (fun cdv A outer s H vs Q E hr hgd h => ?_)
  · obtain ⟨G, m, c, q, b, many, sparse, rfl, _⟩ := h
    rfl
  · obtain ⟨G, m, c, q, b, many, sparse, rfl, M, hb, h1, h2, k⟩ := h
    have nd := sc__law_some.nd
    refine ⟨_, (pss_cons (ps_setLc (i := 3) (own := [("_law_spot", 4)]) rfl nd rfl rfl (sw_true rfl rfl rfl (by decide +kernel)) (pi_range1 rfl T.range (pa_cons (pv 1) pa_nil)) (blkOk_by (N := N__law_some) (sc := defScope s__law_some) (by decide +kernel)) (fun _ _ _ _ _ => (pg_name (i := 4) nd rfl (Or.inl rfl))) (fun _ _ _ _ _ => pts_one (pt_cmpR op_ge (pe_cG cD hr (by decide) hgd rfl (pa_cons (pv 0) (pa_cons pe_int pa_nil))) (pv 2) (nomark _))) (fun _ _ _ _ _ => (pv 4)))
    (pss_one (ps_ret (pe_ifExp (pt_cmpR (op_neD hr.units) (pv 3) (pe_lst pa_nil) (nomark _)) (pe_callTy call_tuple_of (by rfl) T.tuple (by decide +kernel) (pa_cons (pv 3) pa_nil)) (pe_tup (pa_cons (pe_cG cD hr (by decide) hgd rfl (pa_cons (pv 0) (pa_cons (pv 1) pa_nil))) pa_nil)))))), ?_⟩
    refine ⟨_, rfl, many, rfl, by omega, by omega, fun D hD => ?_⟩
    have nD := MAt.ne M hD
    have gD : G D = none := M.s.free hD
    refine lc_range (lo := 0) (n := many.toNat) (fun i H4 => ∃ acc : List Int, H4 D = some (.lst (acc.map V.int)) ∧ acc.Pairwise (· < ·) ∧ (∀ x ∈ acc, 0 ≤ x ∧ x < (i : Int)) ∧ acc.length ≤ i ∧ FutM m q G H G H4 ∧ MAt G H4 m c q (b + i)) ⟨[], upd_same, List.Pairwise.nil, by simp, by simp, FutM.mut (FutM.refl M.s) hD gD, MAt.mut M nD gD⟩ ?_ ?_
    · rintro i H4 hi ⟨acc, hA, ha1, ha2, ha3, f4, M4⟩
      refine ⟨rfl, ?_⟩
      refine ⟨_, rfl, G, m, c, q, b + i, 4, rfl, M4, by omega, by decide, by decide, fun r H5 r0 r1 f5 M5 => ?_⟩
      refine ⟨_, rfl, _, _, rfl, rfl, _, rfl, ?_⟩
      have hA5 := f5.h D _ hA nD.1 nD.2.2
      refine ite2 (fun _ => ?_) (fun _ => ?_)
      · refine ⟨_, rfl, _, hA5, small1000 (by rw [List.length_map]; omega), acc ++ [(0 + (i : Int))], by rw [upd_same, List.map_append] <;> rfl, ?_, ?_, by rw [List.length_append]; show acc.length + 1 ≤ i + 1; omega, FutM.mut (f4.trans f5) hD gD, MAt.mut M5 nD gD⟩
        · rw [List.pairwise_append]
          refine ⟨ha1, by simp, fun x hx y hy => ?_⟩
          rw [List.mem_singleton] at hy
          have := ha2 x hx
          omega
        · intro x hx
          rcases List.mem_append.mp hx with z | z
          · have := ha2 x z
            omega
          · rw [List.mem_singleton] at z
            omega
      · exact ⟨acc, hA5, ha1, fun x hx => by have := ha2 x hx; omega, by omega, f4.trans f5, M5⟩
    · rintro H4 ⟨acc, hA, ha1, ha2, ha3, f4, M4⟩
      refine ⟨_, rfl, (by show 0 ≤ sizeLine; decide), fun p hp => ⟨_, _, .lst (SqL.of (by rw [upd_ne (ne_of_none hA hp)]; exact hA)) (DpAll.ints acc), .lst (SqL.of upd_same) .nil, shaped_ints acc, rfl, _, rfl, ?_⟩⟩
      rw [eqv_nil]
      have f5 := f4.trans (Fut.up M4.s (Same.new (o := .lst []) hp)).m
      have M5 := M4.fut (Fut.up M4.s (Same.new (o := .lst []) hp))
      have hA5 : (upd H4 p (.lst [])) D = some (.lst (acc.map V.int)) := by rw [upd_ne (ne_of_none hA hp)]; exact hA
      generalize (upd H4 p (.lst [])) = H5 at f5 M5 hA5 ⊢
      cases acc with
      | nil =>
        refine iteF ?_
        refine ⟨_, rfl, _, rfl, G, m, c, q, b + many.toNat, many, rfl, M5, by omega, by omega, by omega, fun r H6 r0 r1 f6 M6 => ⟨(by show 1 ≤ sizeLine; decide), fun t ht => ?_⟩⟩
        have fn := Fut.new (o := .tup [V.int r]) M6.s ht
        exact k t [r] _ _ ⟨by simp, by simp, fun x hx => by rw [List.mem_singleton] at hx; omega⟩ ((f5.trans f6).trans fn.m) ((M6.fut fn).mono (by omega)) upd_same
      | cons a0 ar =>
        refine iteT ?_
        refine ⟨_, rfl, D, _, rfl, .inl ⟨SqL.of hA5, fun t ht => ?_⟩⟩
        have fn := Fut.new (o := .tup ((a0 :: ar).map V.int)) M5.s ht
        exact k t (a0 :: ar) _ _ ⟨by simp, ha1, fun x hx => by have := ha2 x hx; omega⟩ (f5.trans fn.m) ((M5.fut fn).mono (by omega)) upd_same
end
end W2

namespace W2
open PySem PySem.Spec PyProof.Rows L2 Pg Pf
/-! ### nets as data -/
def cellD (c : List Int) : PyData := .tuple (c.map PyData.int)
def rowL (r : List (List Int)) : PyData := .list (r.map cellD)
def rowT (r : List (List Int)) : PyData := .tuple (r.map cellD)
def tabL (T : List (List (List Int))) : PyData := .list (T.map rowL)
def tabT (T : List (List (List Int))) : PyData := .tuple (T.map rowT)
def netD (e w k : Int) (T : List (List (List Int))) : PyData := .tuple [.int e, .int w, .int k, tabL T]
structure Net (most many e w k : Int) (T : List (List (List Int))) : Prop where
  e1 : 1 ≤ e
  e2 : e ≤ most
  w1 : 1 ≤ w
  w2 : w ≤ most
  k1 : 1 ≤ k
  k2 : k ≤ many
  len : (T.length : Int) = e
  row : ∀ r ∈ T, (r.length : Int) = w ∧ ∀ c ∈ r, Cell k c
theorem dp_cell {K : PySem.W.Frag} {H : Hp} {t : Addr} {ns : List Int} (h : H t = some (.tup (ns.map V.int))) : Dp K H (.ref t) (cellD ns) := .tup (Evl.st_of h) (DpAll.ints ns)
def rangeI (k : Int) : List Int := (List.range k.toNat).map fun i => (0 : Int) + (i : Nat)
theorem rangeI_V (k : Int) : rgV 0 k = (rangeI k).map V.int := by
  unfold rgV rangeI
  rw [List.map_map, Int.sub_zero]
  rfl
theorem cell_range {k : Int} (h : 1 ≤ k) : Cell k (rangeI k) := by
  unfold rangeI
  refine ⟨fun z => ?_, ?_, fun x hx => ?_⟩
  · have := congrArg List.length z
    rw [List.length_map, List.length_range] at this
    simp at this
    omega
  · rw [List.pairwise_map]
    exact List.pairwise_lt_range.imp fun h => by omega
  · obtain ⟨i, hi, rfl⟩ := List.mem_map.mp hx
    rw [List.mem_range] at hi
    omega
/-- what stands at D, new since H, is known for good from now on -/
theorem FutM.freeze {m q D : Addr} {G H G' H' : Hp} {o : HO} (f : FutM m q G H G' H') (hD : H D = none) (hG : G' D = none) (hd : H' D = some o) : FutM m q G H (upd G' D o) H' :=
  ⟨f.g.trans (Same.new hG), f.h, fun b u e => by
    by_cases z : b = D
    · rw [z, upd_same] at e
      rw [z, hd]
      exact e
    · rw [upd_ne z] at e
      exact f.s _ _ e, fun p e => by
    by_cases z : p = D
    · exact .inr (z ▸ hD)
    · rw [upd_ne z] at e
      exact f.n p e, f.k⟩
theorem MAt.freeze {G H : Hp} {m c q D : Addr} {b : Nat} {o : HO} (M : MAt G H m c q b) (n : D ≠ m ∧ D ≠ c ∧ D ≠ q) (hd : H D = some o) : MAt (upd G D o) H m c q b := by
  obtain ⟨n1, n2, n3⟩ := n
  exact ⟨fun b u e => by
    by_cases z : b = D
    · rw [z, upd_same] at e
      rw [z, hd]
      exact e
    · rw [upd_ne z] at e
      exact M.s _ _ e, by rw [upd_ne n1.symm]; exact M.gm, by rw [upd_ne n2.symm]; exact M.gc, by rw [upd_ne n3.symm]; exact M.gq, M.ob, M.cs, M.gs, M.cq⟩
def spNet (K : PySem.W.Frag) : Sp := fun vs H Q _ => ∃ (G : Hp) (m c q : Addr) (b : Nat) (most many : Int), vs = [.ref m, .int most, .int many] ∧ MAt G H m c q b ∧ b ≤ 800000000 ∧ 1 ≤ most ∧ most ≤ 6 ∧ 1 ≤ many ∧ many ≤ 12 ∧
  ∀ (t : Addr) (e w k : Int) (R : List (List (List Int))) (G' H' : Hp), Net most many e w k R → FutM m q G H G' H' → MAt G' H' m c q (b + 600) → Dp K G' (.ref t) (netD e w k R) → Q (.ref t) H'
abbrev s__law_net : Stmt := top 22
abbrev N__law_net : List Str := ["_law_m", "_law_most", "_law_many", "_law_east", "_law_west", "_law_sparse", "_law_spots", "_law_rows", "_law_n", "_law_k"]
theorem sc__law_net : FnScope N__law_net ["_law_m", "_law_most", "_law_many"] (defScope s__law_net) := ⟨rfl, rfl, rfl, by decide +kernel, rfl, by decide +kernel, by decide +kernel⟩
section
variable {P : Program} {w : World} {K : PySem.W.Frag} {mg : Str → Option Value} {base : Heap} {f : Addr} {fd : FuncData}
theorem ok_net (T : Bt mg) (cD : CalG P w K mg base 3 "_law_draw" spDraw) (cS : CalG P w K mg base 4 "_law_some" spSome) (F : Fun K "_law_net" "_law_net" s__law_net f fd) : FnG P w K mg base 5 f fd ["_law_m", "_law_most", "_law_many"] (spNet K) := by
  refine okG F sc__law_net (fun vs H Q E h => ?_) (fun cdv A outer s H vs Q E hr hgd h => ?_)
  · obtain ⟨G, m, c, q, b, most, many, rfl, _⟩ := h
    rfl
  · obtain ⟨G, m, c, q, b, most, many, rfl, M, hb, h1, h2, h3, h4, k⟩ := h
    have nd := sc__law_net.nd
    refine ⟨_, (pss_cons (ps_asg (pe_tup (pa_cons (pe_op op_add pe_int (pe_cG cD hr (by decide) hgd rfl (pa_cons (pv 0) (pa_cons (pv 1) pa_nil)))) (pa_cons (pe_op op_add pe_int (pe_cG cD hr (by decide) hgd rfl (pa_cons (pv 0) (pa_cons (pv 1) pa_nil)))) (pa_cons (pe_cG cD hr (by decide) hgd rfl (pa_cons (pv 0) (pa_cons pe_int pa_nil))) pa_nil)))) (pg_tup rfl (pgs_cons (pg_name (i := 3) nd rfl (Or.inl rfl)) (pgs_cons (pg_name (i := 4) nd rfl (Or.inl rfl)) (pgs_cons (pg_name (i := 5) nd rfl (Or.inr rfl)) pgs_nil)))))
    (pss_cons (ps_set (i := 6) nd rfl (Or.inr rfl) (pe_callB (call_max2 rfl) (by rfl) T.max (by decide +kernel) (pa_cons pe_int (pa_cons (pe_callB (call_min2 rfl) (by rfl) T.min (by decide +kernel) (pa_cons (pv 2) (pa_cons (pe_op op_sub (pe_op op_add (pe_callB (call_min2 rfl) (by rfl) T.min (by decide +kernel) (pa_cons (pv 3) (pa_cons (pv 4) pa_nil))) (pe_cG cD hr (by decide) hgd rfl (pa_cons (pv 0) (pa_cons pe_int pa_nil)))) pe_int) pa_nil))) pa_nil))))
    (pss_cons (ps_set (i := 7) nd rfl (Or.inl rfl) (pe_lst pa_nil))
    (pss_cons (ps_for PassesOwn.never rfl (pi_range1 rfl T.range (pa_cons (pv 3) pa_nil)) (pg_name (i := 8) nd rfl (Or.inl rfl))
    (pss_one (ps_expr (pe_bm PySem.F.plainAttrs_list PySem.F.slot_list_append PySem.F.type_list_append mt_append (pv 7) (pa_cons (pe_lc (own := [("_law_k", 9)]) rfl nd (pi_range1 rfl T.range (pa_cons (pv 4) pa_nil)) (blkOk_by (N := N__law_net) (sc := defScope s__law_net) (by decide +kernel)) (fun _ _ _ _ _ => (pg_name (i := 9) nd rfl (Or.inl rfl))) (fun _ _ _ _ _ => pts_nil) (fun _ _ _ _ _ => (pe_ifExp (pt_cmpR op_gt (pe_cG cD hr (by decide) hgd rfl (pa_cons (pv 0) (pa_cons pe_int pa_nil))) pe_int (nomark _)) (pe_cG cS hr (by decide) hgd rfl (pa_cons (pv 0) (pa_cons (pv 6) (pa_cons (pv 5) pa_nil)))) (pe_tupRg rfl (by rfl) T.tuple (prg_1 (by rfl) T.range (pv 6)))))) pa_nil)))))
    (pss_one (ps_ret (pe_tup (pa_cons (pv 3) (pa_cons (pv 4) (pa_cons (pv 6) (pa_cons (pv 7) pa_nil))))))))))), ?_⟩
    refine ⟨_, rfl, _, rfl, G, m, c, q, b, most, rfl, M, by omega, by omega, by omega, fun r1 H1 a0 a1 f1 M1 => ⟨_, _, rfl, rfl, _, rfl, _, rfl, G, m, c, q, _, most, rfl, M1, by omega, by omega, by omega, fun r2 H2 b0 b1 f2 M2 =>
      ⟨_, _, rfl, rfl, _, rfl, G, m, c, q, _, 4, rfl, M2, by omega, by decide, by decide, fun r3 H3 c0 c1 f3 M3 => ⟨(by show 3 ≤ sizeLine; decide), fun p hp => ?_⟩⟩⟩⟩
    refine ⟨p, _, rfl, SqT.of upd_same, rfl, _, _, rfl, _, _, rfl, _, _, rfl, rfl, ?_⟩
    have f4 := ((f1.trans f2).trans f3).trans (Fut.up M3.s (Same.new (o := .tup [V.int (1 + r1), V.int (1 + r2), V.int r3]) hp)).m
    have M4 := M3.fut (Fut.up M3.s (Same.new (o := .tup [V.int (1 + r1), V.int (1 + r2), V.int r3]) hp))
    show tSeq _ _ _ [some (.ref m), some (.int most), some (.int many), some (.int (1 + r1)), some (.int (1 + r2)), some (.int r3), none, none, none, none] (upd H3 p (.tup [V.int (1 + r1), V.int (1 + r2), V.int r3]))
    generalize (upd H3 p (.tup [V.int (1 + r1), V.int (1 + r2), V.int r3])) = H4 at f4 M4 ⊢
    have e1 : 1 ≤ 1 + r1 := by omega
    have e2 : 1 + r1 ≤ most := by omega
    have w1 : 1 ≤ 1 + r2 := by omega
    have w2 : 1 + r2 ≤ most := by omega
    generalize 1 + r1 = e at e1 e2 ⊢
    generalize 1 + r2 = wd at w1 w2 ⊢
    refine ⟨_, rfl, _, rfl, _, rfl, _, _, rfl, _, rfl, G, m, c, q, _, 5, rfl, M4, by omega, by decide, by decide, fun r4 H5 d0 d1 f5 M5 => ⟨_, _, rfl, rfl, _, _, rfl, rfl, _, _, rfl, _, _, rfl, ?_⟩⟩
    have f6 := f4.trans f5
    obtain ⟨sp, hsp, sp1, sp2⟩ : ∃ sp : Int, (if (if (if wd < e then wd else e) + r4 - 1 < many then (if wd < e then wd else e) + r4 - 1 else many) > 1 then (if (if wd < e then wd else e) + r4 - 1 < many then (if wd < e then wd else e) + r4 - 1 else many) else 1) = sp ∧ 1 ≤ sp ∧ sp ≤ many := ⟨_, rfl, by
      split <;> omega, by
      split
      · split <;> omega
      · omega⟩
    show tSeq _ _ _ [some (.ref m), some (.int most), some (.int many), some (.int e), some (.int wd), some (.int r3), some (.int (if (if (if wd < e then wd else e) + r4 - 1 < many then (if wd < e then wd else e) + r4 - 1 else many) > 1 then (if (if wd < e then wd else e) + r4 - 1 < many then (if wd < e then wd else e) + r4 - 1 else many) else 1)), none, none, none] H5
    rw [hsp]
    refine ⟨(by show 0 ≤ sizeLine; decide), fun L hL => ?_⟩
    have nL := MAt.ne M5 hL
    have gL : G L = none := M5.s.free hL
    have hL0 : H L = none := f6.k L hL
    refine ⟨_, rfl, e, rfl, by omega, by omega, for_range (lo := 0) (n := e.toNat) (fun i σ H6 => ∃ (G6 : Hp) (R : List (List (List Int))) (vs : List V) (v8 : Option V), σ = [some (.ref m), some (.int most), some (.int many), some (.int e), some (.int wd), some (.int r3), some (.int sp), some (.ref L), v8, none] ∧
        H6 L = some (.lst vs) ∧ DpAll K G6 vs (R.map rowL) ∧ R.length = i ∧ (∀ r ∈ R, (r.length : Int) = wd ∧ ∀ c ∈ r, Cell sp c) ∧ FutM m q G H G6 H6 ∧ MAt G6 H6 m c q (b + 4 + 90 * i) ∧ G6 L = none)
      ⟨G, [], [], none, rfl, upd_same, .nil, rfl, by simp, FutM.mut f6 hL0 gL, (MAt.mut M5 nL gL).mono (by omega), gL⟩ ?_ ?_⟩
    · rintro i σ H6 hi ⟨G6, R, vs, v8, rfl, hl6, hd6, hR1, hR2, f7, M7, g7⟩
      refine ⟨_, rfl, .inl ⟨rfl, _, SqL.of hl6⟩, ?_⟩
      refine ⟨_, rfl, wd, rfl, by omega, by omega, fun D hD => ?_⟩
      have nD := MAt.ne M7 hD
      have gD : G6 D = none := M7.s.free hD
      have hD0 : H D = none := f7.k D hD
      have nDL : L ≠ D := ne_of_none hl6 hD
      refine lc_range (lo := 0) (n := wd.toNat) (fun j H8 => ∃ (G8 : Hp) (r : List (List Int)) (ws : List V), H8 D = some (.lst ws) ∧ DpAll K G8 ws (r.map cellD) ∧ r.length = j ∧ (∀ c ∈ r, Cell sp c) ∧ Same G6 G8 ∧ FutM m q G H G8 H8 ∧ MAt G8 H8 m c q (b + 4 + 90 * i + 14 * j) ∧ G8 D = none ∧ G8 L = none ∧ H8 L = some (.lst vs))
        ⟨G6, [], [], upd_same, .nil, rfl, by simp, Same.refl _, FutM.mut f7 hD0 gD, MAt.mut M7 nD gD, gD, g7, by rw [upd_ne nDL]; exact hl6⟩ ?_ ?_
      · rintro j H8 hj ⟨G8, r, ws, h8, hd8, hr1, hr2, s8, f8, M8, gD8, gL8, hl8⟩
        refine ⟨rfl, ?_⟩
        refine ⟨_, rfl, G8, m, c, q, _, 3, rfl, M8, by omega, by decide, by decide, fun r5 H9 x0 x1 f9 M9 => ⟨_, _, rfl, rfl, _, rfl, ?_⟩⟩
        have h9 := f9.h D _ h8 nD.1 nD.2.2
        have hl9 := f9.h L _ hl8 nL.1 nL.2.2
        have wl : ws.length < sizeLine := small1000 (by rw [DpAll.len hd8, List.length_map]; omega)
        refine ite2 (fun _ => ?_) (fun _ => ?_)
        · refine ⟨_, rfl, _, rfl, _, rfl, G8, m, c, q, _, sp, r3, rfl, M9, by omega, by omega, by omega, fun t ns G10 H10 hc f10 M10 ht => ?_⟩
          have gD10 : G10 D = none := FutM.fresh f10 M9.s (by rw [h9]; simp) gD8
          have gL10 : G10 L = none := FutM.fresh f10 M9.s (by rw [hl9]; simp) gL8
          have h10 := f10.h D _ h9 nD.1 nD.2.2
          refine ⟨_, h10, wl, G10, r ++ [ns], _, upd_same, ?_, by rw [List.length_append, hr1] <;> rfl, ?_, s8.trans f10.g, FutM.mut ((f8.trans f9).trans f10) hD0 gD10, (MAt.mut M10 nD gD10).mono (by omega), gD10, gL10, by rw [upd_ne nDL]; exact f10.h L _ hl9 nL.1 nL.2.2⟩
          · rw [List.map_append]
            exact DpAll.snoc (DpAll.mono f10.g _ _ hd8) (dp_cell ht)
          · intro x hx
            rcases List.mem_append.mp hx with z | z
            · exact hr2 x z
            · rw [List.mem_singleton] at z
              exact z ▸ hc
        · refine ⟨_, rfl, _, rfl, RgOk.of_le (by decide) (by omega) (by decide) (by omega), fun t ht => ?_⟩
          rw [rangeI_V]
          have fn := Fut.new (o := .tup ((rangeI sp).map V.int)) M9.s ht
          have nt : D ≠ t := ne_of_none h9 ht
          have nt2 : L ≠ t := ne_of_none hl9 ht
          have gD10 : (upd G8 t (.tup ((rangeI sp).map V.int))) D = none := by rw [upd_ne nt]; exact gD8
          have gL10 : (upd G8 t (.tup ((rangeI sp).map V.int))) L = none := by rw [upd_ne nt2]; exact gL8
          refine ⟨_, by rw [upd_ne nt]; exact h9, wl, _, r ++ [rangeI sp], _, upd_same, ?_, by rw [List.length_append, hr1] <;> rfl, ?_, s8.trans fn.g, FutM.mut ((f8.trans f9).trans fn.m) hD0 gD10, (MAt.mut (M9.fut fn) nD gD10).mono (by omega), gD10, gL10, by rw [upd_ne nDL, upd_ne nt2]; exact hl9⟩
          · rw [List.map_append]
            exact DpAll.snoc (DpAll.mono fn.g _ _ hd8) (dp_cell upd_same)
          · intro x hx
            rcases List.mem_append.mp hx with z | z
            · exact hr2 x z
            · rw [List.mem_singleton] at z
              exact z ▸ cell_range sp1
      · rintro H8 ⟨G8, r, ws, h8, hd8, hr1, hr2, s8, f8, M8, gD8, gL8, hl8⟩
        refine ⟨L, vs, _, rfl, rfl, hl8, small1000 (by rw [DpAll.len hd6, List.length_map]; omega), ?_⟩
        have g9 : (upd G8 D (.lst ws)) L = none := by rw [upd_ne nDL]; exact gL8
        have f9 := FutM.freeze f8 hD0 gD8 h8
        have M9 := MAt.freeze M8 nD h8
        have sN : Same G8 (upd G8 D (.lst ws)) := Same.new gD8
        refine ⟨_, R ++ [r], _, _, rfl, upd_same, ?_, by rw [List.length_append, hR1] <;> rfl, ?_, FutM.mut f9 hL0 g9, (MAt.mut M9 nL g9).mono (by omega), g9⟩
        · rw [List.map_append]
          exact DpAll.snoc (DpAll.mono (s8.trans sN) _ _ hd6) (.lst (SqL.of upd_same) (DpAll.mono sN _ _ hd8))
        · intro x hx
          rcases List.mem_append.mp hx with z | z
          · exact hR2 x z
          · rw [List.mem_singleton] at z
            rw [z]
            exact ⟨by omega, hr2⟩
    · rintro σ H6 ⟨G6, R, vs, v8, rfl, hl6, hd6, hR1, hR2, f7, M7, g7⟩
      refine ⟨_, rfl, _, rfl, _, rfl, _, rfl, (by show 4 ≤ sizeLine; decide), fun t ht => ?_⟩
      have f8 := FutM.freeze f7 hL0 g7 hl6
      have M8 := MAt.freeze M7 nL hl6
      have fn := Fut.new (o := .tup [.int e, .int wd, .int sp, .ref L]) M8.s ht
      refine k t e wd sp R _ _ ⟨e1, e2, w1, w2, sp1, sp2, by omega, hR2⟩ (f8.trans fn.m) ((M8.fut fn).mono (by omega)) ?_
      refine .tup (Evl.st_of upd_same) (.cons (.int _) (.cons (.int _) (.cons (.int _) (.cons ?_ .nil))))
      exact .lst (Same.seq fn.g (SqL.of upd_same)) (DpAll.mono ((Same.new g7).trans fn.g) _ _ hd6)
end
end W2

/-! Rul: further rules. -/
namespace Rul
open PySem PySem.Spec PyProof.Rows L2
theorem tup_mul1 (l : Addr) (items : Array Value) (n : Nat) (dd : Option Addr) (sl : Array (Option Value)) (u : Tok) (c1 : (items.isEmpty || (1 : Int) == 1) = true) :
    Meets (Builtin.«tuple.__mul__» ⟨[.ref l, .int 1 u], []⟩) (fun _ R s => s.heap.get? l = some { cls := .type "tuple", dict := dd, data := .seq items n, slots := sl } ∧ R (.ok (.ret (Value.ref l))) s) :=
  .of_wp fun prog w A R s h => by
    obtain ⟨hp, g, d, tk, os⟩ := s
    obtain ⟨hl, h⟩ := h
    have f1 := AutoSeq1.idx_int
    wp_walk using wpAny_loadPart' hl
    exact ⟨_, rfl, h⟩
def rRepA (K : PySem.W.Frag) : R2 := fun x y H Q => ∃ l k xs, x = .ref l ∧ y = .int k ∧ SqT K H l xs ∧ xs ≠ [] ∧ 1 ≤ k ∧ k ≤ 1000 ∧ xs.length ≤ 1000 ∧ (k = 1 → Q (.ref l) H) ∧ (k ≠ 1 → ∀ p, H p = none → Q (.ref p) (upd H p (.tup (List.replicate k.toNat xs).flatten)))
section
variable {X : Cx}
theorem op_rep1 : OpR X (binaryOp .Mult) (fun x y H Q => ∃ l xs, x = .ref l ∧ y = .int 1 ∧ SqT X.K H l xs ∧ Q (.ref l) H) := by
  intro pins s σ H x y v u Q I rx ry h
  obtain ⟨l, xs, rfl, rfl, hT, q⟩ := h
  cases rx
  obtain ⟨t, rfl⟩ := ry
  obtain ⟨its, r, ⟨⟨cls, dd, data, sl⟩, ho, hc, n, hd⟩, hs⟩ := I.tuple hT
  simp only at hc hd
  subst hc hd
  have c1 : (its.toArray.isEmpty || (1 : Int) == 1) = true := by
    rw [show ((1 : Int) == 1) = true from rfl, Bool.or_true]
  exact wpAny_binaryOp_repeat_ref (T := "tuple") (U := "int") (by decide) ⟨_, ho, rfl⟩ (fun s' => typeIs_int s' 1 t) noFill_tuple_mul F.fills_int_mul F.slot_int_rmul repeat_tuple F.slot_int_index.lookup
    (call_meets F.slot_int_rmul (typeIs_int s 1 t) F.entry_int_rmul (F.args_int_rmul_2 _ _) (int_rmul_tuple 1 t l its.toArray n dd sl)
      ⟨ho, rfl, ⟨_, ho, rfl⟩, call_meets F.slot_tuple_mul ⟨_, ho, rfl⟩ F.entry_tuple_mul (F.args_tuple_mul_2 _ _) (tup_mul1 l its.toArray n dd sl t c1) ⟨ho, ⟨.ref l, H, I, rfl, q⟩⟩⟩)
theorem op_repA : OpR X (binaryOp .Mult) (rRepA X.K) := by
  intro pins s σ H x y v u Q I rx ry h
  obtain ⟨l, k, xs, rfl, rfl, hT, hne, h1, h2, hz, q1, q2⟩ := h
  by_cases e : k = 1
  · subst e
    exact op_rep1 pins s σ H _ _ v u Q I rx ry ⟨l, xs, rfl, rfl, hT, q1 rfl⟩
  · exact op_repT pins s σ H _ _ v u Q I rx ry ⟨l, k, xs, rfl, rfl, hT, hne, by omega, h2, hz, q2 e⟩
end
end Rul

/-! Tab: tables as functions of the pair; tuples cut and joined. -/
namespace Tab
open PySem PySem.Spec PyProof.Rows L2 Pg Pf Rul W2
theorem slA {K : PySem.W.Frag} {G H : Hp} {a : Addr} {xs : List V} {lo hi : Option Int} {Q : VK} (s : Same G H) (h : SqT K G a xs)
    (k : ∀ p G' H', Fut G H G' H' → SqT K G' p (cutV xs lo hi) → Q (.ref p) H') : rSlA K (.ref a) lo hi H Q := by
  refine ⟨a, xs, rfl, Evl.ex_t s h, fun ⟨e1, e2⟩ => ?_, fun _ p hp => ?_⟩
  · have e : cutV xs lo hi = xs := by
      unfold cutV
      rw [e1, e2, List.drop_zero, Nat.sub_zero, List.take_length]
    exact k a G H (Fut.refl s) (by rw [e]; exact h)
  · exact k p _ _ (Fut.new s hp) (Evl.st_of upd_same)
theorem catA {K : PySem.W.Frag} {G H : Hp} {a b : Addr} {xs ys : List V} {Q : VK} (s : Same G H) (h1 : SqT K G a xs) (h2 : SqT K G b ys) (hl : xs.length + ys.length ≤ 1000)
    (k : ∀ p G' H', Fut G H G' H' → SqT K G' p (xs ++ ys) → Q (.ref p) H') : rCatA K (.ref a) (.ref b) H Q := by
  refine ⟨a, b, xs, ys, rfl, rfl, Evl.ex_t s h1, Evl.ex_t s h2, Nat.le_of_lt (small1000 hl), fun e => ?_, fun _ e => ?_, fun _ _ p hp => ?_⟩
  · exact k b G H (Fut.refl s) (by rw [e]; exact h2)
  · exact k a G H (Fut.refl s) (by rw [e, List.append_nil]; exact h1)
  · exact k p _ _ (Fut.new s hp) (Evl.st_of upd_same)
theorem repA {K : PySem.W.Frag} {G H : Hp} {a : Addr} {xs : List V} {n : Int} {Q : VK} (s : Same G H) (h : SqT K G a xs) (hx : xs ≠ []) (h1 : 1 ≤ n) (h2 : n ≤ 1000) (h3 : xs.length ≤ 1000)
    (k : ∀ p G' H', Fut G H G' H' → SqT K G' p (List.replicate n.toNat xs).flatten → Q (.ref p) H') : rRepA K (.ref a) (.int n) H Q := by
  refine ⟨a, n, xs, rfl, rfl, Evl.ex_t s h, hx, h1, h2, h3, fun e => ?_, fun _ p hp => ?_⟩
  · refine k a G H (Fut.refl s) ?_
    have e : (List.replicate n.toNat xs).flatten = xs := by
      subst e
      show (List.replicate 1 xs).flatten = xs
      simp
    rw [e]
    exact h
  · exact k p _ _ (Fut.new s hp) (Evl.st_of upd_same)
theorem cut_to (xs : List V) (j : Nat) (h : j ≤ xs.length) : cutV xs none (some (j : Int)) = xs.take j := by
  unfold cutV
  rw [HT.sIx_none, HT.sIx_nat, List.drop_zero, Nat.sub_zero, Nat.min_eq_left h]
theorem cut_from (xs : List V) (j : Nat) (h : j ≤ xs.length) : cutV xs (some (j : Int)) none = xs.drop j := by
  unfold cutV
  rw [HT.sIx_none, HT.sIx_nat, Nat.min_eq_left h]
  exact List.take_of_length_le (by rw [List.length_drop]; exact Nat.le_refl _)
theorem set_cut {α : Type} (xs : List α) (j : Nat) (v : α) (h : j < xs.length) : xs.take j ++ [v] ++ xs.drop (j + 1) = xs.set j v := by
  rw [List.set_eq_take_append_cons_drop, if_pos h, List.append_assoc]
  rfl
/-- a table by its entries -/
def tabF (r l : Nat) (c : Nat → Nat → List Int) : List (List (List Int)) := (List.range r).map fun i => (List.range l).map fun j => c i j
theorem tabF_len (r l : Nat) (c : Nat → Nat → List Int) : (tabF r l c).length = r := by unfold tabF; rw [List.length_map, List.length_range]
theorem tabF_at {r l : Nat} {c : Nat → Nat → List Int} {i : Nat} (h : i < r) : (tabF r l c)[i]? = some ((List.range l).map fun j => c i j) := by
  unfold tabF
  rw [List.getElem?_map, List.getElem?_range h]
  rfl
theorem rowF_at {l : Nat} {f : Nat → List Int} {j : Nat} (h : j < l) : ((List.range l).map f)[j]? = some (f j) := by
  rw [List.getElem?_map, List.getElem?_range h]
  rfl
def put2 (c : Nat → Nat → List Int) (i j : Nat) (v : List Int) : Nat → Nat → List Int := fun i' j' => if i' = i ∧ j' = j then v else c i' j'
theorem map_set_range {α : Type} (n i : Nat) (f : Nat → α) (v : α) : ((List.range n).map f).set i v = (List.range n).map fun k => if k = i then v else f k := by
  apply List.ext_getElem?
  intro k
  rw [List.getElem?_set, List.getElem?_map, List.getElem?_map, List.length_map, List.length_range]
  by_cases hk : k < n
  · rw [List.getElem?_range hk]
    by_cases e : i = k
    · subst e
      simp [hk]
    · rw [if_neg e]
      have e' : ¬ k = i := fun z => e z.symm
      simp [e']
  · have hn : (List.range n)[k]? = none := by
      rw [List.getElem?_eq_none_iff, List.length_range]
      omega
    rw [hn]
    by_cases e : i = k
    · subst e
      simp [hk]
    · rw [if_neg e]
      rfl
theorem tabF_put (r l : Nat) (c : Nat → Nat → List Int) (i j : Nat) (v : List Int) : (tabF r l c).set i (((List.range l).map fun j => c i j).set j v) = tabF r l (put2 c i j v) := by
  unfold tabF
  rw [map_set_range, map_set_range]
  apply List.map_congr_left
  intro a _
  by_cases e : a = i
  · subst e
    rw [if_pos rfl]
    apply List.map_congr_left
    intro b _
    unfold put2
    by_cases e2 : b = j
    · rw [if_pos e2, if_pos ⟨rfl, e2⟩]
    · rw [if_neg e2, if_neg (fun z => e2 z.2)]
  · rw [if_neg e]
    apply List.map_congr_left
    intro b _
    unfold put2
    rw [if_neg (fun z => e z.1)]
theorem DpAll.set {K : PySem.W.Frag} {H : Hp} : ∀ {vs : List V} {ds : List PyData} {j : Nat} {v : V} {d : PyData}, DpAll K H vs ds → Dp K H v d → DpAll K H (vs.set j v) (ds.set j d)
  | _, _, _, _, _, .nil, _ => .nil
  | _, _, 0, _, _, .cons _ b, h => .cons h b
  | _, _, j + 1, _, _, .cons a b, h => .cons a (DpAll.set (j := j) b h)
end Tab

namespace W2
open PySem PySem.Spec PyProof.Rows L2 Pg Pf Rul Tab
/-- the built-in names that the class's text reads -/
structure Bw (mg : Str → Option Value) : Prop where
  isinstance : mg "isinstance" = none
  bool : mg "bool" = none
  int : mg "int" = none
abbrev s_is_int : Stmt := top  7
theorem sc_is_int : FnScope ["value"] ["value"] (defScope s_is_int) := ⟨rfl, rfl, rfl, by decide +kernel, rfl, by decide +kernel, by decide +kernel⟩
abbrev s_is_number : Stmt := top 8
abbrev N_is_number : List Str := ["value", "low", "high"]
theorem sc_is_number : FnScope N_is_number ["value", "low", "high"] (defScope s_is_number) := ⟨rfl, rfl, rfl, by decide +kernel, rfl, by decide +kernel, by decide +kernel⟩
abbrev s_check_walker : Stmt := top 9
abbrev N_check_walker : List Str := ["value", "walkers"]
theorem sc_check_walker : FnScope N_check_walker ["value", "walkers"] (defScope s_check_walker) := ⟨rfl, rfl, rfl, by decide +kernel, rfl, by decide +kernel, by decide +kernel⟩
abbrev s_with_cell : Stmt := top 14
abbrev N_with_cell : List Str := ["table", "right", "left", "cell", "row"]
theorem sc_with_cell : FnScope N_with_cell ["table", "right", "left", "cell"] (defScope s_with_cell) := ⟨rfl, rfl, rfl, by decide +kernel, rfl, by decide +kernel, by decide +kernel⟩
def spInt : Sp := fun vs H Q _ => ∃ v : Int, vs = [.int v] ∧ Q (.bl true) H
def spNum : Sp := fun vs H Q _ => ∃ v lo hi : Int, vs = [.int v, .int lo, .int hi] ∧ Q (.bl (decide (lo ≤ v) && decide (v ≤ hi))) H
def spChk : Sp := fun vs H Q _ => ∃ v n : Int, vs = [.int v, .int n] ∧ 0 ≤ v ∧ v < n ∧ Q .non H
/-- with_cell(table, right, left, cell) -/
def spCell (K : PySem.W.Frag) : Sp := fun vs H Q _ => ∃ (G : Hp) (t x : Addr) (r l i j : Nat) (c : Nat → Nat → List Int) (v : List Int), vs = [.ref t, .int (i : Nat), .int (j : Nat), .ref x] ∧ Same G H ∧ Dp K G (.ref t) (tabT (tabF r l c)) ∧ i < r ∧ j < l ∧ r ≤ 6 ∧ l ≤ 6 ∧ Dp K G (.ref x) (cellD v) ∧
  ∀ (p : Addr) (G' H' : Hp), Fut G H G' H' → Dp K G' (.ref p) (tabT (tabF r l (put2 c i j v))) → Q (.ref p) H'
section
variable {P : Program} {w : World} {K : PySem.W.Frag} {mg : Str → Option Value} {base : Heap} {f : Addr} {fd : FuncData}
theorem ok_is_int (T : Bw mg) (F : Fun K "is_int" "is_int" s_is_int f fd) : FnOk P w K mg base CX0 1 f fd ["value"] spInt := by
  refine F.ok sc_is_int (fun vs H Q E h => ?_) (fun cdv A outer s H vs Q E hr h => ?_)
  · obtain ⟨v, rfl, _⟩ := h
    rfl
  · obtain ⟨v, rfl, k⟩ := h
    refine ⟨_, (pss_one (ps_ret (pe_and (pe_callB call_isi (by rfl) T.isinstance (by decide +kernel) (pa_cons (pv 0) (pa_cons (pe_bltn (v := .ty "int") (by rfl) T.int (by decide +kernel) rfl) pa_nil))) (pe_one (pe_not (pe_callB call_isi (by rfl) T.isinstance (by decide +kernel) (pa_cons (pv 0) (pa_cons (pe_bltn (v := .ty "bool") (by rfl) T.bool (by decide +kernel) rfl) pa_nil)))))))), ?_⟩
    refine ⟨_, rfl, _, _, _, _, true, rfl, .ty _, .base (.int _), kit_ty (by decide +kernel), _, rfl, ?_⟩
    refine iteT ?_
    refine ⟨_, rfl, _, _, _, _, false, rfl, .ty _, .base (.int _), kit_ty (by decide +kernel), _, rfl, ?_⟩
    exact k
theorem ok_is_number (cI : CalO P w K mg base 1 "is_int" spInt) (F : Fun K "is_number" "is_number" s_is_number f fd) : FnOk P w K mg base CX0 2 f fd ["value", "low", "high"] spNum := by
  refine F.ok sc_is_number (fun vs H Q E h => ?_) (fun cdv A outer s H vs Q E hr h => ?_)
  · obtain ⟨v, lo, hi, rfl, _⟩ := h
    rfl
  · obtain ⟨v, lo, hi, rfl, k⟩ := h
    refine ⟨_, (pss_one (ps_ret (pe_and (pe_cO cI hr (by decide) rfl (pa_cons (pv 0) pa_nil)) (pe_one (pe_chain op_le op_le (pv 1) (pv 0) (pv 2)))))), ?_⟩
    refine ⟨_, rfl, v, rfl, _, rfl, ?_⟩
    refine iteT ?_
    refine ⟨_, rfl, _, rfl, _, _, rfl, rfl, _, rfl, ?_⟩
    by_cases h1 : lo ≤ v
    · rw [decide_eq_true h1] at k ⊢
      refine iteT ?_
      refine ⟨_, rfl, _, _, rfl, rfl, ?_⟩
      rw [Bool.true_and] at k
      exact k
    · rw [decide_eq_false h1] at k ⊢
      refine iteF ?_
      exact k
theorem ok_check_walker (cN : CalO P w K mg base 2 "is_number" spNum) (F : Fun K "check_walker" "check_walker" s_check_walker f fd) : FnOk P w K mg base CX0 3 f fd ["value", "walkers"] spChk := by
  refine F.ok sc_check_walker (fun vs H Q E h => ?_) (fun cdv A outer s H vs Q E hr h => ?_)
  · obtain ⟨v, n, rfl, _⟩ := h
    rfl
  · obtain ⟨v, n, rfl, h1, h2, k⟩ := h
    refine ⟨_, (pss_one (ps_if (pt_not (pt_val (pe_cO cN hr (by decide) rfl (pa_cons (pv 0) (pa_cons pe_int (pa_cons (pe_op op_sub (pv 1) pe_int) pa_nil)))))) (pss_one ps_never) pss_nil)), ?_⟩
    refine ⟨_, rfl, _, rfl, _, _, rfl, rfl, v, 0, n - 1, rfl, _, rfl, ?_⟩
    rw [decide_eq_true h1, decide_eq_true (show v ≤ n - 1 by omega)]
    refine iteF ?_
    exact k
theorem ok_with_cell (F : Fun K "with_cell" "with_cell" s_with_cell f fd) : FnOk P w K mg base CX0 2 f fd ["table", "right", "left", "cell"] (spCell K) := by
  refine F.ok sc_with_cell (fun vs H Q E h => ?_) (fun cdv A outer s H vs Q E hr h => ?_)
  · obtain ⟨G, t, x, r, l, i, j, c, v, rfl, _⟩ := h
    rfl
  · obtain ⟨G, t, x, r, l, i, j, c, v, rfl, sG, hd, hi, hj, hr6, hl6, hx, k⟩ := h
    have nd := sc_with_cell.nd
    refine ⟨_, (pss_cons (ps_set (i := 4) nd rfl (Or.inl rfl) (pe_op op_catA (pe_op op_catA (pe_slice sl_tupA (pe_ix ix_tup (pv 0) (pv 1) (fun _ _ => rfl)) po_none (po_some (pv 2))) (pe_tup (pa_cons (pv 3) pa_nil))) (pe_slice sl_tupA (pe_ix ix_tup (pv 0) (pv 1) (fun _ _ => rfl)) (po_some (pe_op op_add (pv 2) pe_int)) po_none)))
      (pss_one (ps_ret (pe_op op_catA (pe_op op_catA (pe_slice sl_tupA (pv 0) po_none (po_some (pv 1))) (pe_tup (pa_cons (pv 4) pa_nil))) (pe_slice sl_tupA (pv 0) (po_some (pe_op op_add (pv 1) pe_int)) po_none))))), ?_⟩
    obtain ⟨xs, hS, hA⟩ : ∃ xs, SqT K G t xs ∧ DpAll K G xs ((tabF r l c).map rowT) := by
      cases hd with
      | tup a b => exact ⟨_, a, b⟩
    obtain ⟨y, hy, hdy⟩ := DpAll.at hA (i := i) (d := rowT ((List.range l).map fun j => c i j)) (by rw [List.getElem?_map, tabF_at hi] <;> rfl)
    obtain ⟨ty, rfl, ys, hS2, hA2⟩ : ∃ ty, y = .ref ty ∧ ∃ ys, SqT K G ty ys ∧ DpAll K G ys (((List.range l).map fun j => c i j).map cellD) := by
      cases hdy with
      | tup a b => exact ⟨_, rfl, _, a, b⟩
    have lx : xs.length = r := by rw [DpAll.len hA, List.length_map, tabF_len]
    have ly : ys.length = l := by rw [DpAll.len hA2, List.length_map, List.length_map, List.length_range]
    -- row = table[right][:left] + (cell,) + table[right][left + 1:]
    refine ⟨_, rfl, _, rfl, t, _, _, _, rfl, rfl, Evl.ex_t sG hS, atI_nat hy, _, rfl, _, rfl, slA sG hS2 fun p1 G1 H1 f1 h1 => ?_⟩
    rw [cut_to _ _ (by omega)] at h1
    refine ⟨_, rfl, (by show 1 ≤ sizeLine; decide), fun q1 n1 => ?_⟩
    have f2 := f1.trans (Fut.new (o := .tup [.ref x]) f1.s n1)
    refine catA f2.s (Evl.ex_t (Fut.new (o := .tup [.ref x]) f1.s n1).g h1) (Evl.st_of upd_same) (by rw [List.length_take]; show _ + 1 ≤ 1000; omega) fun p2 G2 H2 f3 h2 => ?_
    have g2 := f2.trans f3
    refine ⟨_, rfl, _, rfl, t, _, _, _, rfl, rfl, Evl.ex_t (g2.g.trans g2.s) hS, atI_nat hy, _, rfl, _, _, rfl, rfl, _, rfl, ?_⟩
    dsimp only [tNoPart]
    refine slA (lo := some (((j : Nat) : Int) + 1)) (hi := none) g2.s (Evl.ex_t g2.g hS2) fun p3 G3 H3 f4 h3 => ?_
    rw [show ((j : Nat) : Int) + 1 = ((j + 1 : Nat) : Int) by omega, cut_from _ _ (by omega)] at h3
    refine catA f4.s (Evl.ex_t f4.g h2) h3 (by rw [List.length_append, List.length_take, List.length_drop]; show _ + 1 + _ ≤ 1000; omega) fun p4 G4 H4 f5 h4 => ?_
    rw [set_cut _ _ _ (by omega)] at h4
    have g4 := (g2.trans f4).trans f5
    -- the table
    refine ⟨_, rfl, _, rfl, _, rfl, slA g4.s (Evl.ex_t g4.g hS) fun p5 G5 H5 f6 h5 => ?_⟩
    rw [cut_to _ _ (by omega)] at h5
    refine ⟨_, rfl, (by show 1 ≤ sizeLine; decide), fun q2 n2 => ?_⟩
    have f7 := f6.trans (Fut.new (o := .tup [.ref p4]) f6.s n2)
    refine catA f7.s (Evl.ex_t (Fut.new (o := .tup [.ref p4]) f6.s n2).g h5) (Evl.st_of upd_same) (by rw [List.length_take]; show _ + 1 ≤ 1000; omega) fun p6 G6 H6 f8 h6 => ?_
    have g6 := (g4.trans f7).trans f8
    refine ⟨_, rfl, _, rfl, _, _, rfl, rfl, _, rfl, ?_⟩
    dsimp only [tNoPart]
    refine slA (lo := some (((i : Nat) : Int) + 1)) (hi := none) g6.s (Evl.ex_t g6.g hS) fun p7 G7 H7 f9 h7 => ?_
    rw [show ((i : Nat) : Int) + 1 = ((i + 1 : Nat) : Int) by omega, cut_from _ _ (by omega)] at h7
    refine catA f9.s (Evl.ex_t f9.g h6) h7 (by rw [List.length_append, List.length_take, List.length_drop]; show _ + 1 + _ ≤ 1000; omega) fun p8 G8 H8 f10 h8 => ?_
    rw [set_cut _ _ _ (by omega)] at h8
    have g8 := (g6.trans f9).trans f10
    have e48 : Same G4 G8 := ((f7.g.trans f8.g).trans f9.g).trans f10.g
    refine k p8 G8 H8 g8 ?_
    unfold tabT
    rw [← tabF_put, List.map_set]
    refine .tup h8 (DpAll.set (DpAll.mono g8.g _ _ hA) ?_)
    unfold rowT
    rw [List.map_set]
    exact .tup (Evl.ex_t e48 h4) (DpAll.mono e48 _ _ (DpAll.set (DpAll.mono g4.g _ _ hA2) (Dp.mono g4.g _ _ hx)))
end
end W2

namespace W2
open PySem PySem.Spec PyProof.Rows L2 Pg Pf Rul Tab
/-- the class Way as the top has made it -/
structure Wt (K : PySem.W.Frag) (mg : Str → Option Value) (C : Addr) : Prop where
  cl : Cls K C
  nR : NoAttr K C "_rights"
  nL : NoAttr K C "_lefts"
  nP : NoAttr K C "_places"
  nT : NoAttr K C "_table"
  mgC : mg "Way" = some (.ref C)
  rd : ∃ mc t6 t12, ClX.CRead K C mc ∧ ClX.CVal K C mc "MAX_WALKERS" (.int 6) (.int 6 t6) ∧ ClX.CVal K C mc "MAX_PLACES" (.int 12) (.int 12 t12)
theorem nrl : ¬ (("_rights" : Str) = "_lefts") := by decide +kernel
theorem nrp : ¬ (("_rights" : Str) = "_places") := by decide +kernel
theorem nrt : ¬ (("_rights" : Str) = "_table") := by decide +kernel
theorem nlp : ¬ (("_lefts" : Str) = "_places") := by decide +kernel
theorem nlt : ¬ (("_lefts" : Str) = "_table") := by decide +kernel
theorem npt : ¬ (("_places" : Str) = "_table") := by decide +kernel
/-- its attributes, in the order in which they are stored -/
def wf (r l k : V) (t : V) : List (Str × V) := putF "_table" t (putF "_places" k (putF "_lefts" l (putF "_rights" r [])))
theorem wf_eq (r l k t : V) : wf r l k t = ([("_rights", r), ("_lefts", l), ("_places", k), ("_table", t)] : List (Str × V)) := by
  unfold wf
  simp only [putF, if_neg nrl, if_neg nrp, if_neg nrt, if_neg nlp, if_neg nlt, if_neg npt]
theorem wf_r (r l k t : V) : (wf r l k t).lookup ("_rights" : Str) = some r := by
  unfold wf
  rw [lookup_putF, if_neg nrt, lookup_putF, if_neg nrp, lookup_putF, if_neg nrl, lookup_putF, if_pos rfl]
theorem wf_l (r l k t : V) : (wf r l k t).lookup ("_lefts" : Str) = some l := by
  unfold wf
  rw [lookup_putF, if_neg nlt, lookup_putF, if_neg nlp, lookup_putF, if_pos rfl]
theorem wf_k (r l k t : V) : (wf r l k t).lookup ("_places" : Str) = some k := by
  unfold wf
  rw [lookup_putF, if_neg npt, lookup_putF, if_pos rfl]
theorem wf_t (r l k t : V) : (wf r l k t).lookup ("_table" : Str) = some t := by
  unfold wf
  rw [lookup_putF, if_pos rfl]
theorem wf_no (r l k t : V) {m : Str} (h1 : ¬ m = "_table") (h2 : ¬ m = "_places") (h3 : ¬ m = "_lefts") (h4 : ¬ m = "_rights") : (wf r l k t).lookup m = none := by
  unfold wf
  rw [lookup_putF, if_neg h1, lookup_putF, if_neg h2, lookup_putF, if_neg h3, lookup_putF, if_neg h4]
  rfl
theorem wf_put (r l k t t' : V) : putF "_table" t' (wf r l k t) = wf r l k t' := by
  rw [wf_eq, wf_eq]
  simp only [putF, if_neg nrt, if_neg nlt, if_neg npt, if_pos]
/-- a way stands at a: its numbers, its allowed places -/
structure WayAt (K : PySem.W.Frag) (C : Addr) (G : Hp) (a : Addr) (r l k : Nat) (c : Nat → Nat → List Int) : Prop where
  ob : ∃ dx t, G a = some (.ins C dx (wf (.int (r : Nat)) (.int (l : Nat)) (.int (k : Nat)) (.ref t))) ∧ Dp K G (.ref t) (tabT (tabF r l c))
  r1 : 1 ≤ r
  r2 : r ≤ 6
  l1 : 1 ≤ l
  l2 : l ≤ 6
  k1 : 1 ≤ k
  k2 : k ≤ 12
  ok : ∀ i j, i < r → j < l → Cell (k : Int) (c i j)
theorem WayAt.mono {K : PySem.W.Frag} {C : Addr} {G G' : Hp} {a : Addr} {r l k : Nat} {c : Nat → Nat → List Int} (W : WayAt K C G a r l k c) (e : Same G G') : WayAt K C G' a r l k c :=
  ⟨let ⟨dx, t, h, d⟩ := W.ob; ⟨dx, t, e _ _ h, Dp.mono e _ _ d⟩, W.r1, W.r2, W.l1, W.l2, W.k1, W.k2, W.ok⟩
abbrev s_wrong_part : Stmt := top 12
abbrev N_wrong_part : List Str := ["rights", "lefts", "places"]
theorem sc_wrong_part : FnScope N_wrong_part ["rights", "lefts", "places"] (defScope s_wrong_part) := ⟨rfl, rfl, rfl, by decide +kernel, rfl, by decide +kernel, by decide +kernel⟩
abbrev s_Way_init : Stmt := inClass (top 11) 2
abbrev N_Way_init : List Str := ["self", "rights", "lefts", "places", "part"]
theorem sc_Way_init : FnScope N_Way_init ["self", "rights", "lefts", "places"] (defScope s_Way_init) := ⟨rfl, rfl, rfl, by decide +kernel, rfl, by decide +kernel, by decide +kernel⟩
def spWrong : Sp := fun vs H Q _ => ∃ r l k : Nat, vs = [.int (r : Nat), .int (l : Nat), .int (k : Nat)] ∧ 1 ≤ r ∧ r ≤ 6 ∧ 1 ≤ l ∧ l ≤ 6 ∧ 1 ≤ k ∧ k ≤ 12 ∧ Q .non H
/-- __init__ of a way: all places are allowed; G: what is known for good, without the new object -/
def spInit (K : PySem.W.Frag) (C : Addr) : Sp := fun vs H Q _ => ∃ (G : Hp) (a dx : Addr) (r l k : Nat), vs = [.ref a, .int (r : Nat), .int (l : Nat), .int (k : Nat)] ∧ Same G H ∧ G a = none ∧ H a = some (.ins C dx []) ∧ 1 ≤ r ∧ r ≤ 6 ∧ 1 ≤ l ∧ l ≤ 6 ∧ 1 ≤ k ∧ k ≤ 12 ∧
  ∀ (t : Addr) (G' H' : Hp), Same G G' → Same G' H' → (∀ p o, H p = some o → p ≠ a → H' p = some o) → (∀ p, G' p ≠ none → G p ≠ none ∨ H p = none) → G' a = none →
    H' a = some (.ins C dx (wf (.int (r : Nat)) (.int (l : Nat)) (.int (k : Nat)) (.ref t))) → Dp K G' (.ref t) (tabT (tabF r l fun _ _ => rangeI k)) → Q .non H'
section
variable {P : Program} {w : World} {K : PySem.W.Frag} {mg : Str → Option Value} {base : Heap} {f C : Addr} {fd : FuncData}
theorem ok_wrong (T : Wt K mg C) (cN : CalO P w K mg base 2 "is_number" spNum) (F : Fun K "wrong_part" "wrong_part" s_wrong_part f fd) : FnOk P w K mg base CX0 3 f fd ["rights", "lefts", "places"] spWrong := by
  refine F.ok sc_wrong_part (fun vs H Q E h => ?_) (fun cdv A outer s H vs Q E hr h => ?_)
  · obtain ⟨r, l, k, rfl, _⟩ := h
    rfl
  · obtain ⟨r, l, k, rfl, r1, r2, l1, l2, k1, k2, q⟩ := h
    obtain ⟨mc, t6, t12, hrd, hw, hp⟩ := T.rd
    refine ⟨_, (pss_cons (ps_if (pt_not (pt_val (pe_cO cN hr (by decide) rfl (pa_cons (pv 0) (pa_cons pe_int (pa_cons (ClX.pe_cval (pe_glob (v := .ref C) (by rfl) T.mgC rfl)) pa_nil)))))) (pss_one (ps_ret pe_str)) pss_nil)
      (pss_cons (ps_if (pt_not (pt_val (pe_cO cN hr (by decide) rfl (pa_cons (pv 1) (pa_cons pe_int (pa_cons (ClX.pe_cval (pe_glob (v := .ref C) (by rfl) T.mgC rfl)) pa_nil)))))) (pss_one (ps_ret pe_str)) pss_nil)
      (pss_cons (ps_if (pt_not (pt_val (pe_cO cN hr (by decide) rfl (pa_cons (pv 2) (pa_cons pe_int (pa_cons (ClX.pe_cval (pe_glob (v := .ref C) (by rfl) T.mgC rfl)) pa_nil)))))) (pss_one (ps_ret pe_str)) pss_nil)
      (pss_one (ps_ret pe_non))))), ?_⟩
    refine ⟨_, rfl, C, mc, _, _, rfl, hrd, hw, _, _, _, rfl, _, rfl, ?_⟩
    rw [decide_eq_true (show (1 : Int) ≤ (r : Nat) by omega), decide_eq_true (show ((r : Nat) : Int) ≤ 6 by omega)]
    refine iteF ?_
    refine ⟨_, rfl, C, mc, _, _, rfl, hrd, hw, _, _, _, rfl, _, rfl, ?_⟩
    rw [decide_eq_true (show (1 : Int) ≤ (l : Nat) by omega), decide_eq_true (show ((l : Nat) : Int) ≤ 6 by omega)]
    refine iteF ?_
    refine ⟨_, rfl, C, mc, _, _, rfl, hrd, hp, _, _, _, rfl, _, rfl, ?_⟩
    rw [decide_eq_true (show (1 : Int) ≤ (k : Nat) by omega), decide_eq_true (show ((k : Nat) : Int) ≤ 12 by omega)]
    refine iteF ?_
    exact q
theorem rep_one {α : Type} (n : Nat) (x : α) : (List.replicate n [x]).flatten = List.replicate n x := by
  induction n with
  | zero => rfl
  | succ n ih =>
    rw [List.replicate_succ, List.flatten_cons, ih]
    rfl
theorem DpAll.rep {K : PySem.W.Frag} {H : Hp} {v : V} {d : PyData} (h : Dp K H v d) : ∀ n, DpAll K H (List.replicate n v) (List.replicate n d)
  | 0 => .nil
  | n + 1 => .cons h (DpAll.rep h n)
theorem map_range_rep {α : Type} (n : Nat) (x : α) : (List.range n).map (fun _ => x) = List.replicate n x := by
  apply List.ext_getElem?
  intro i
  rw [List.getElem?_map, List.getElem?_replicate]
  by_cases h : i < n
  · rw [List.getElem?_range h, if_pos h]
    rfl
  · rw [if_neg h, List.getElem?_eq_none_iff.mpr (by rw [List.length_range]; omega)]
    rfl
theorem ok_init (B : Bt mg) (T : Wt K mg C) (cW : CalO P w K mg base 3 "wrong_part" spWrong) (F : Fun K "__init__" "Way.__init__" s_Way_init f fd) : FnOk P w K mg base CX0 4 f fd ["self", "rights", "lefts", "places"] (spInit K C) := by
  refine F.ok sc_Way_init (fun vs H Q E h => ?_) (fun cdv A outer s H vs Q E hr h => ?_)
  · obtain ⟨G, a, dx, r, l, k, rfl, _⟩ := h
    rfl
  · obtain ⟨G, a, dx, r, l, k, rfl, sG, ga, ha, r1, r2, l1, l2, k1, k2, q⟩ := h
    have nd := sc_Way_init.nd
    refine ⟨_, (pss_cons (ps_set (i := 4) nd rfl (Or.inl rfl) (pe_cO cW hr (by decide) rfl (pa_cons (pv 1) (pa_cons (pv 2) (pa_cons (pv 3) pa_nil)))))
    (pss_cons (ps_if (pt_cmpR op_notN (pv 4) pe_non (nomark _)) (pss_one ps_never) pss_nil)
    (pss_cons (ps_fld (pv 0) (pv 1) rfl)
    (pss_cons (ps_fld (pv 0) (pv 2) rfl)
    (pss_cons (ps_fld (pv 0) (pv 3) rfl)
    (pss_one (ps_fld (pv 0) (pe_op op_repA (pe_tup (pa_cons (pe_op op_repA (pe_tup (pa_cons (pe_tupRg rfl (by rfl) B.tuple (prg_1 (by rfl) B.range (pv 3))) pa_nil)) (pv 2)) pa_nil)) (pv 1)) rfl))))))), ?_⟩
    refine ⟨_, rfl, _, rfl, _, rfl, r, l, k, rfl, r1, r2, l1, l2, k1, k2, ?_⟩
    refine ⟨_, rfl, rfl, _, rfl, ?_⟩
    refine iteF ?_
    refine ⟨_, rfl, _, rfl, a, C, dx, _, rfl, ha, T.cl, T.nR, (by show 0 < 1000; decide), ?_⟩
    refine ⟨_, rfl, _, rfl, a, C, dx, _, rfl, upd_same, T.cl, T.nL, (by show 1 < 1000; decide), ?_⟩
    refine ⟨_, rfl, _, rfl, a, C, dx, _, rfl, upd_same, T.cl, T.nP, (by simp only [putF, if_neg nrl]; show 2 < 1000; decide), ?_⟩
    rw [upd_upd, upd_upd]
    have hn : ∀ p, (upd H a (.ins C dx (putF "_places" (.int (k : Nat)) (putF "_lefts" (.int (l : Nat)) (putF "_rights" (.int (r : Nat)) []))))) p = none → H p = none := fun p e => by
      by_cases z : p = a
      · rw [z, upd_same] at e
        cases e
      · rw [upd_ne z] at e
        exact e
    have hk : ∀ p o, H p = some o → p ≠ a → (upd H a (.ins C dx (putF "_places" (.int (k : Nat)) (putF "_lefts" (.int (l : Nat)) (putF "_rights" (.int (r : Nat)) []))))) p = some o := fun p o e z => by rw [upd_ne z]; exact e
    have sG3 : Same G (upd H a (.ins C dx (putF "_places" (.int (k : Nat)) (putF "_lefts" (.int (l : Nat)) (putF "_rights" (.int (r : Nat)) []))))) := Fut.mut sG ga
    have ha3 : (upd H a (.ins C dx (putF "_places" (.int (k : Nat)) (putF "_lefts" (.int (l : Nat)) (putF "_rights" (.int (r : Nat)) []))))) a = some (.ins C dx (putF "_places" (.int (k : Nat)) (putF "_lefts" (.int (l : Nat)) (putF "_rights" (.int (r : Nat)) [])))) := upd_same
    generalize (upd H a (.ins C dx (putF "_places" (.int (k : Nat)) (putF "_lefts" (.int (l : Nat)) (putF "_rights" (.int (r : Nat)) []))))) = H3 at hn hk sG3 ha3 ⊢
    refine ⟨_, rfl, _, rfl, RgOk.of_le (by decide) (by omega) (by decide) (by omega), fun t1 n1 => ?_⟩
    rw [rangeI_V]
    have f1 := Fut.new (o := .tup ((rangeI (k : Nat)).map V.int)) sG3 n1
    have d1 : Dp K (upd G t1 (.tup ((rangeI (k : Nat)).map V.int))) (.ref t1) (cellD (rangeI (k : Nat))) := dp_cell upd_same
    refine ⟨(by show 1 ≤ sizeLine; decide), fun t2 n2 => ⟨_, rfl, ?_⟩⟩
    have f2 := Fut.new (o := .tup [.ref t1]) f1.s n2
    refine repA f2.s (Evl.st_of upd_same) (by simp) (by omega) (by omega) (by show 1 ≤ 1000; decide) fun t3 G3 H5 f3 s3 => ?_
    rw [rep_one, show ((l : Nat) : Int).toNat = l by omega] at s3
    have d3 : Dp K G3 (.ref t3) (rowT (List.replicate l (rangeI (k : Nat)))) := by
      unfold rowT
      rw [List.map_replicate]
      exact .tup s3 (DpAll.rep (Dp.mono (f2.g.trans f3.g) _ _ d1) l)
    refine ⟨(by show 1 ≤ sizeLine; decide), fun t4 n4 => ⟨_, rfl, ?_⟩⟩
    have f4 := Fut.new (o := .tup [.ref t3]) f3.s n4
    refine repA f4.s (Evl.st_of upd_same) (by simp) (by omega) (by omega) (by show 1 ≤ 1000; decide) fun t5 G5 H6 f5 s5 => ?_
    rw [rep_one, show ((r : Nat) : Int).toNat = r by omega] at s5
    have d5 : Dp K G5 (.ref t5) (tabT (tabF r l fun _ _ => rangeI (k : Nat))) := by
      unfold tabF
      rw [map_range_rep, map_range_rep]
      unfold tabT
      rw [List.map_replicate]
      exact .tup s5 (DpAll.rep (Dp.mono (f4.g.trans f5.g) _ _ d3) r)
    have fA := (((f1.trans f2).trans f3).trans f4).trans f5
    have gA : G5 a = none := by
      cases e : G5 a with
      | none => rfl
      | some o =>
        rcases fA.n a (by rw [e]; simp) with z | z
        · exact absurd ga z
        · rw [ha3] at z
          cases z
    refine ⟨_, rfl, a, C, dx, _, rfl, fA.h _ _ ha3, T.cl, T.nT, (by simp only [putF, if_neg nrl, if_neg nrp, if_neg nlp]; show 3 < 1000; decide), ?_⟩
    exact q t5 G5 _ fA.g (Fut.mut fA.s gA) (fun p o e z => by rw [upd_ne z]; exact fA.h _ _ (hk p o e z)) (fun p e => (fA.n p e).imp id (hn p)) gA upd_same d5
end
end W2

namespace W2
open PySem PySem.Spec PyProof.Rows L2 Pg Pf Rul Tab
/-- the property of the class at C that hands back the attribute fld -/
structure Pr (P : Program) (w : World) (K : PySem.W.Frag) (mg : Str → Option Value) (base : Heap) (C : Addr) (f fld : Str) : Prop where
  ex : ∃ (p g : Addr) (fd : FuncData), Cls K C ∧ PropOf K C f p g ∧ FnOk P w K mg base CX0 1 g fd ["self"] (getSp C fld) ∧ Binds K fd ["self"] []
theorem pe_pr {X : Cx} {j : Nat} {C : Addr} {f fld : Str} {e : Expr} {ta : TE} {pos : Pos} (c : Pr X.prog X.w X.K X.mg X.base C f fld) (hr : Room j X.A) (hk : 2 ≤ j) (he : PE X e ta) (hab : attributeBase e f X.env (eval e X.env) = eval e X.env := by rfl) :
    PE X (.Attribute e f pos) (tProp C (getSp C fld) [] E0 ta) := by
  obtain ⟨p, g, fd, cl, hp, F, b⟩ := c.ex
  exact pe_prop he cl hp F (hr.mono hk) b .nil pass0 hab
/-- reading a property of a way -/
theorem rd_pr {C a dx : Addr} {fld : Str} {fs : List (Str × V)} {H : Hp} {v : V} {Q : VK} {E : XK} (h : H a = some (.ins C dx fs)) (l : fs.lookup fld = some v) (q : Q v H) : ∃ a' dx' fs', V.ref a = .ref a' ∧ H a' = some (.ins C dx' fs') ∧ getSp C fld (.ref a' :: []) H Q E :=
  ⟨a, dx, fs, rfl, h, a, dx, fs, v, rfl, h, l, q⟩
def pairD (p : Nat × Nat) : PyData := .tuple [.int (p.1 : Nat), .int (p.2 : Nat)]
def pairsL (r l : Nat) : List (Nat × Nat) := (List.range r).flatMap fun i => (List.range l).map fun j => (i, j)
theorem pairs_step (r l : Nat) : pairsL (r + 1) l = pairsL r l ++ (List.range l).map fun j => (r, j) := by
  unfold pairsL
  rw [List.range_succ, List.flatMap_append]
  simp
theorem pairs_len (r l : Nat) : (pairsL r l).length = r * l := by
  induction r with
  | zero => simp [pairsL]
  | succ r ih =>
    rw [pairs_step, List.length_append, ih, List.length_map, List.length_range, Nat.succ_mul]
theorem dp0 {K : PySem.W.Frag} {H : Hp} (z : Int) : Dp K H (.int (0 + z)) (.int z) := by
  rw [Int.zero_add]
  exact .int _
abbrev s_pairs_of : Stmt := top 15
abbrev N_pairs_of : List Str := ["way", "right", "left"]
theorem sc_pairs_of : FnScope N_pairs_of ["way"] (defScope s_pairs_of) := ⟨rfl, rfl, rfl, by decide +kernel, rfl, by decide +kernel, by decide +kernel⟩
def spPairs (K : PySem.W.Frag) (C : Addr) : Sp := fun vs H Q _ => ∃ (G : Hp) (a : Addr) (r l k : Nat) (c : Nat → Nat → List Int), vs = [.ref a] ∧ Same G H ∧ WayAt K C G a r l k c ∧
  ∀ (p : Addr) (G' H' : Hp), Fut G H G' H' → Dp K G' (.ref p) (.list ((pairsL r l).map pairD)) → Q (.ref p) H'
section
variable {P : Program} {w : World} {K : PySem.W.Frag} {mg : Str → Option Value} {base : Heap} {f C : Addr} {fd : FuncData}
theorem ok_pairs (B : Bt mg) (pR : Pr P w K mg base C "rights" "_rights") (pL : Pr P w K mg base C "lefts" "_lefts") (F : Fun K "pairs_of" "pairs_of" s_pairs_of f fd) : FnOk P w K mg base CX0 4 f fd ["way"] (spPairs K C) := by
  refine F.ok sc_pairs_of (fun vs H Q E h => ?_) (fun cdv A outer s H vs Q E hr h => ?_)
  · obtain ⟨G, a, r, l, k, c, rfl, _⟩ := h
    rfl
  · obtain ⟨G, a, r, l, k, c, rfl, sG, W, q⟩ := h
    have nd := sc_pairs_of.nd
    refine ⟨_, (pss_one (ps_ret (pe_lc2 (own := [("right", 1), ("left", 2)]) (vs1 := [2]) rfl nd (pi_range1 rfl B.range (pa_cons (pe_pr pR hr (by decide) (pv 0)) pa_nil)) (blkOk_by (N := N_pairs_of) (sc := defScope s_pairs_of) (by decide +kernel)) (by decide)
      (fun _ _ _ _ _ => (pg_name (i := 1) nd rfl (Or.inl rfl))) (fun _ _ _ _ _ => pts_nil) (fun _ _ _ _ _ => pi_range1 rfl B.range (pa_cons (pe_pr pL hr (by decide) (pv 0)) pa_nil)) (fun _ _ _ _ _ => (pg_name (i := 2) nd rfl (Or.inl rfl))) (fun _ _ _ _ _ => pts_nil) (fun _ _ _ _ _ => (pe_tup (pa_cons (pv 1) (pa_cons (pv 2) pa_nil))))))), ?_⟩
    obtain ⟨dx, t, ha, hd⟩ := W.ob
    have r2 := W.r2
    have l2 := W.l2
    refine ⟨_, rfl, rd_pr (sG _ _ ha) (wf_r _ _ _ _) ⟨(r : Nat), rfl, by omega, by omega, fun D hD => ?_⟩⟩
    have gD : G D = none := sG.free hD
    rw [show ((r : Nat) : Int).toNat = r by omega]
    refine ⟨fun i m H2 => m = r - i ∧ i ≤ r ∧ ∃ (G2 : Hp) (vs : List V), H2 D = some (.lst vs) ∧ DpAll K G2 vs ((pairsL i l).map pairD) ∧ Same G G2 ∧ Same G2 H2 ∧ Same H H2 ∧ (∀ p, G2 p ≠ none → G p ≠ none ∨ H p = none) ∧ G2 D = none,
      ⟨r, by simp, Nat.zero_le _, G, [], upd_same, .nil, Same.refl _, Fut.mut sG gD, Same.new hD, fun p e => .inl e, gD⟩, ?_⟩
    rintro i m H2 ⟨rfl, hi, G2, vs, h2, d2, gg, gh, hh, gn, g2D⟩
    by_cases hir : i < r
    · refine .inr ⟨hir, fun H3 => i + 1 ≤ r ∧ ∃ (G2 : Hp) (vs : List V), H3 D = some (.lst vs) ∧ DpAll K G2 vs ((pairsL (i + 1) l).map pairD) ∧ Same G G2 ∧ Same G2 H3 ∧ Same H H3 ∧ (∀ p, G2 p ≠ none → G p ≠ none ∨ H p = none) ∧ G2 D = none, fun H3 h => ⟨r - (i + 1), by omega, rfl, h⟩, ?_⟩
      rintro x H3 ⟨rfl, rfl⟩
      refine ⟨rfl, ?_⟩
      refine ⟨_, rfl, rd_pr (hh _ _ (sG _ _ ha)) (wf_l _ _ _ _) ⟨(l : Nat), rfl, by omega, by omega, ?_⟩⟩
      rw [show ((l : Nat) : Int).toNat = l by omega]
      refine ⟨fun j m H2 => m = l - j ∧ j ≤ l ∧ ∃ (G2 : Hp) (vs : List V), H2 D = some (.lst vs) ∧ DpAll K G2 vs ((pairsL i l ++ (List.range j).map fun j => (i, j)).map pairD) ∧ Same G G2 ∧ Same G2 H2 ∧ Same H H2 ∧ (∀ p, G2 p ≠ none → G p ≠ none ∨ H p = none) ∧ G2 D = none,
        ⟨l, by simp, Nat.zero_le _, G2, vs, h2, by simpa using d2, gg, gh, hh, gn, g2D⟩, ?_⟩
      rintro j m H4 ⟨rfl, hj, G4, ws, h4, d4, gg4, gh4, hh4, gn4, g4D⟩
      by_cases hjl : j < l
      · refine .inr ⟨hjl, fun H3 => j + 1 ≤ l ∧ ∃ (G2 : Hp) (vs : List V), H3 D = some (.lst vs) ∧ DpAll K G2 vs ((pairsL i l ++ (List.range (j + 1)).map fun j => (i, j)).map pairD) ∧ Same G G2 ∧ Same G2 H3 ∧ Same H H3 ∧ (∀ p, G2 p ≠ none → G p ≠ none ∨ H p = none) ∧ G2 D = none, fun H3 h => ⟨l - (j + 1), by omega, rfl, h⟩, ?_⟩
        rintro x H5 ⟨rfl, rfl⟩
        refine ⟨rfl, ?_⟩
        refine ⟨_, rfl, _, rfl, (by show 2 ≤ sizeLine; decide), fun p hp => ?_⟩
        have fn := Fut.new (o := .tup [.int (0 + (i : Nat)), .int (0 + (j : Nat))]) gh4 hp
        have npD : D ≠ p := ne_of_none h4 hp
        have wl : ws.length ≤ 1000 := by
          rw [DpAll.len d4, List.length_map, List.length_append, pairs_len, List.length_map, List.length_range]
          have := Nat.mul_le_mul (show i ≤ 6 by omega) (show l ≤ 6 by omega)
          omega
        have g5D : (upd G4 p (.tup [.int (0 + (i : Nat)), .int (0 + (j : Nat))])) D = none := by rw [upd_ne npD]; exact g4D
        refine ⟨ws, by rw [upd_ne npD]; exact h4, small1000 wl, by omega, _, _, upd_same, ?_, gg4.trans fn.g, Fut.mut fn.s g5D, Fut.mut (hh4.trans fn.h) hD, fun p' e => ?_, g5D⟩
        · have e : (pairsL i l ++ (List.range (j + 1)).map fun j => (i, j)).map pairD = (pairsL i l ++ (List.range j).map fun j => (i, j)).map pairD ++ [pairD (i, j)] := by simp [List.range_succ]
          rw [e]
          refine DpAll.snoc (DpAll.mono fn.g _ _ d4) ?_
          show Dp K _ _ (.tuple [.int (i : Nat), .int (j : Nat)])
          refine .tup (Evl.st_of upd_same) (.cons (dp0 _) (.cons (dp0 _) .nil))
        · rcases fn.n p' e with z | z
          · exact gn4 p' z
          · exact .inr (hh4.free z)
      · refine .inl ⟨Nat.le_of_not_lt hjl, by omega, G4, ws, h4, ?_, gg4, gh4, hh4, gn4, g4D⟩
        rw [pairs_step]
        have e : j = l := by omega
        rw [← e]
        rw [e] at d4 ⊢
        exact d4
    · refine .inl ⟨Nat.le_of_not_lt hir, ?_⟩
      have e : i = r := by omega
      subst e
      have hD0 : H D = none := hD
      refine q D (upd G2 D (.lst vs)) H2 ⟨gg.trans (Same.new g2D), hh, fun b u e => ?_, fun p e => ?_⟩ (.lst (SqL.of upd_same) (DpAll.mono (Same.new g2D) _ _ d2))
      · by_cases z : b = D
        · rw [z, upd_same] at e
          rw [z, h2]
          exact e
        · rw [upd_ne z] at e
          exact gh _ _ e
      · by_cases z : p = D
        · exact .inr (z ▸ hD0)
        · rw [upd_ne z] at e
          exact gn p e
end
end W2

namespace W2
open PySem PySem.Spec PyProof.Rows L2 Pg Pf Rul Tab
/-- C(..) as a new object at any free place: what its __init__ promises -/
def mkAt (C : Addr) (sp : Sp) (Q : VK) (vs : List V) (H : Hp) : Prop :=
  ∀ x dx, H x = none → H dx = none → dx ≠ x → sp (.ref x :: (vs ++ [])) (upd (upd H dx (.own x)) x (.ins C dx [])) (fun v H2 => v = .non ∧ Q (.ref x) H2) E0
def tMk (C : Addr) (sp : Sp) (t : TA) : TE := fun σ H Q => t σ H fun vs H1 => mkAt C sp Q vs H1
/-- a way is being made: what stands behind its __init__ -/
theorem mk_raw {K : PySem.W.Frag} {C : Addr} {G H : Hp} {r l k : Nat} {Q : VK} (s : Same G H) (r1 : 1 ≤ r) (r2 : r ≤ 6) (l1 : 1 ≤ l) (l2 : l ≤ 6) (k1 : 1 ≤ k) (k2 : k ≤ 12)
    (q : ∀ (x dx t : Addr) (G' H' : Hp), H x = none → Same G G' → Same G' H' → Same H H' → (∀ p, G' p ≠ none → G p ≠ none ∨ H p = none) → G' x = none → H' x = some (.ins C dx (wf (.int (r : Nat)) (.int (l : Nat)) (.int (k : Nat)) (.ref t))) →
      Dp K G' (.ref t) (tabT (tabF r l fun _ _ => rangeI k)) → Q (.ref x) H')  :
    mkAt C (spInit K C) Q [.int (r : Nat), .int (l : Nat), .int (k : Nat)] H := by
  intro x dx nx ndx ne
  have s2 : Same H (upd (upd H dx (.own x)) x (.ins C dx [])) := fun b o e => by
    rw [upd_ne (ne_of_none e nx), upd_ne (ne_of_none e ndx)]
    exact e
  refine ⟨G, x, dx, r, l, k, rfl, s.trans s2, s.free nx, upd_same, r1, r2, l1, l2, k1, k2, fun t G' H' a1 a2 a3 a4 a5 a6 a7 => ⟨rfl, q x dx t G' H' nx a1 a2 (fun p o e => a3 p o (s2 p o e) (ne_of_none e nx)) (fun p e => (a4 p e).imp id fun z => ?_) a5 a6 a7⟩⟩
  exact s2.free z
/-- G, grown by an object that stands in H since it was new -/
theorem fut_add {G H G' H' : Hp} {x : Addr} {o : HO} (g : Same G G') (h : Same H H') (s : Same G' H') (n : ∀ p, G' p ≠ none → G p ≠ none ∨ H p = none) (nx : H x = none) (gx : G' x = none) (hx : H' x = some o) : Fut G H (upd G' x o) H' :=
  ⟨g.trans (Same.new gx), h, fun b u e => by
    by_cases z : b = x
    · rw [z, upd_same] at e
      rw [z, hx]
      exact e
    · rw [upd_ne z] at e
      exact s _ _ e, fun p e => by
    by_cases z : p = x
    · exact .inr (z ▸ nx)
    · rw [upd_ne z] at e
      exact n p e⟩
/-- .. with all places allowed -/
theorem mk_way {K : PySem.W.Frag} {C : Addr} {G H : Hp} {r l k : Nat} {Q : VK} (s : Same G H) (r1 : 1 ≤ r) (r2 : r ≤ 6) (l1 : 1 ≤ l) (l2 : l ≤ 6) (k1 : 1 ≤ k) (k2 : k ≤ 12)
    (q : ∀ (x : Addr) (G' H' : Hp), Fut G H G' H' → WayAt K C G' x r l k (fun _ _ => rangeI k) → Q (.ref x) H')  :
    mkAt C (spInit K C) Q [.int (r : Nat), .int (l : Nat), .int (k : Nat)] H :=
  mk_raw s r1 r2 l1 l2 k1 k2 fun x dx t G' H' nx a1 a2 a3 a4 a5 a6 a7 =>
    q x _ H' (fut_add a1 a3 a2 a4 nx a5 a6) ⟨⟨dx, t, upd_same, Dp.mono (Same.new a5) _ _ a7⟩, r1, r2, l1, l2, k1, k2, fun _ _ _ _ => cell_range (by omega)⟩
/-- a def of the class, called on an object -/
structure Mo (P : Program) (w : World) (K : PySem.W.Frag) (mg : Str → Option Value) (base : Heap) (k : Nat) (C : Addr) (m : Str) (sp : Sp) : Prop where
  ex : ∃ (f : Addr) (fd : FuncData) (ps : List Str), Cls K C ∧ Meth K C m f ∧ FnOk P w K mg base CX0 k f fd ps sp ∧ Binds K fd ps []
/-- the class, called -/
structure Ma (P : Program) (w : World) (K : PySem.W.Frag) (mg : Str → Option Value) (base : Heap) (k : Nat) (x : Str) (C : Addr) (sp : Sp) : Prop where
  ex : ∃ (f : Addr) (fd : FuncData) (ps : List Str), Mk K C f ∧ FnOk P w K mg base CX0 k f fd ps sp ∧ mg x = some (.ref C) ∧ Binds K fd ps []
section
variable {X : Cx} {k j : Nat} {C : Addr} {x m : Str} {sp : Sp} {p pos apos : Pos} {e o : Expr} {es : List Expr} {ta : TE} {t : TA}
theorem pe_ma (c : Ma X.prog X.w X.K X.mg X.base k x C sp) (hr : Room j X.A) (hk : k + 1 ≤ j) (hg : Gl X x) (ha : PA X (e :: es) t)
    (hdb : (x == ("__debug__" : Str)) = false := by decide) (he : starEach (e :: es) X.env = (false, eval e X.env) :: starEach es X.env := by rfl) (hpl : (backTo pos (starEach es X.env)).any (·.1) = false := by rfl) :
    PE X (.Call (.Name x p) (e :: es) [] pos) (tMk C sp t) := by
  obtain ⟨f, fd, ps, M, F, hm, b⟩ := c.ex
  exact pe_make M F (hr.mono hk) hg hm b .nil pass0 ha hdb he hpl
theorem pe_mo {pl : Sem Bool} (c : Mo X.prog X.w X.K X.mg X.base k C m sp) (hr : Room j X.A) (hk : k ≤ j) (he : PE X o ta) (ha : PA X (e :: es) t)
    (hst : starEach (e :: es) X.env = (false, eval e X.env) :: starEach es X.env := by rfl) (hpl : (backTo pos (starEach es X.env)).any (·.1) = false := by rfl)
    (ht : eval (.Call (.Attribute o m apos) (e :: es) [] pos) X.env = (do
      let ov ← eval o X.env
      standAt apos.atName
      let (f, first) ← holding [ov] (getMethod ov m pl)
      callWith pos f first (backTo pos (starEach (e :: es) X.env)) (backToKw pos (keywordEach [] X.env))) := by rfl) :
    PE X (.Call (.Attribute o m apos) (e :: es) [] pos) (tMeth C m sp [] E0 ta t) := by
  obtain ⟨f, fd, ps, cl, me, F, b⟩ := c.ex
  exact pe_meth he cl me F (hr.mono hk) b .nil pass0 ha hst hpl ht
end
abbrev s_way_with : Stmt := top 13
abbrev N_way_with : List Str := ["places", "table", "way"]
theorem sc_way_with : FnScope N_way_with ["places", "table"] (defScope s_way_with) := ⟨rfl, rfl, rfl, by decide +kernel, rfl, by decide +kernel, by decide +kernel⟩
abbrev s_allowed : Stmt := inClass (top 11) 11
abbrev N_allowed : List Str := ["self", "right", "left"]
theorem sc_allowed : FnScope N_allowed ["self", "right", "left"] (defScope s_allowed) := ⟨rfl, rfl, rfl, by decide +kernel, rfl, by decide +kernel, by decide +kernel⟩
abbrev s_checked : Stmt := inClass (top 11) 15
abbrev N_checked : List Str := ["self", "values", "value", "place"]
theorem sc_checked : FnScope N_checked ["self", "values"] (defScope s_checked) := ⟨rfl, rfl, rfl, by decide +kernel, rfl, by decide +kernel, by decide +kernel⟩
def spWith (K : PySem.W.Frag) (C : Addr) : Sp := fun vs H Q _ => ∃ (G : Hp) (t : Addr) (r l k : Nat) (c : Nat → Nat → List Int), vs = [.int (k : Nat), .ref t] ∧ Same G H ∧ Dp K G (.ref t) (tabT (tabF r l c)) ∧ 1 ≤ r ∧ r ≤ 6 ∧ 1 ≤ l ∧ l ≤ 6 ∧ 1 ≤ k ∧ k ≤ 12 ∧ (∀ i j, i < r → j < l → Cell (k : Int) (c i j)) ∧
  ∀ (a : Addr) (G' H' : Hp), Fut G H G' H' → WayAt K C G' a r l k c → Q (.ref a) H'
def spAllowed (K : PySem.W.Frag) (C : Addr) : Sp := fun vs H Q _ => ∃ (G : Hp) (a : Addr) (r l k i j : Nat) (c : Nat → Nat → List Int), vs = [.ref a, .int (i : Nat), .int (j : Nat)] ∧ Same G H ∧ WayAt K C G a r l k c ∧ i < r ∧ j < l ∧
  ∀ x : Addr, Dp K G (.ref x) (cellD (c i j)) → Q (.ref x) H
/-- the places that are given, ascending and each once -/
def spChecked (K : PySem.W.Frag) (C : Addr) : Sp := fun vs H Q _ => ∃ (G : Hp) (a t : Addr) (r l k : Nat) (c : Nat → Nat → List Int) (ns : List Int), vs = [.ref a, .ref t] ∧ Same G H ∧ WayAt K C G a r l k c ∧ SqT K G t (ns.map V.int) ∧ ns.length ≤ 1000 ∧ (∀ x ∈ ns, 0 ≤ x ∧ x < (k : Int)) ∧
  ∀ (p : Addr) (G' H' : Hp), Fut G H G' H' → SqT K G' p (((rangeI k).filter fun x => decide (x ∈ ns)).map V.int) → Q (.ref p) H'
section
variable {P : Program} {w : World} {K : PySem.W.Frag} {mg : Str → Option Value} {base : Heap} {f C : Addr} {fd : FuncData}
/-- the entry of a table -/
theorem tab_at {G : Hp} {t : Addr} {r l i j : Nat} {c : Nat → Nat → List Int} (hd : Dp K G (.ref t) (tabT (tabF r l c))) (hi : i < r) (hj : j < l) :
    ∃ (xs ys : List V) (ty x : Addr), SqT K G t xs ∧ xs.length = r ∧ xs[i]? = some (.ref ty) ∧ SqT K G ty ys ∧ ys.length = l ∧ ys[j]? = some (.ref x) ∧ Dp K G (.ref x) (cellD (c i j)) := by
  obtain ⟨xs, hS, hA⟩ : ∃ xs, SqT K G t xs ∧ DpAll K G xs ((tabF r l c).map rowT) := by
    cases hd with
    | tup a b => exact ⟨_, a, b⟩
  obtain ⟨y, hy, hdy⟩ := DpAll.at hA (i := i) (d := rowT ((List.range l).map fun j => c i j)) (by rw [List.getElem?_map, tabF_at hi] <;> rfl)
  obtain ⟨ty, rfl, ys, hS2, hA2⟩ : ∃ ty, y = .ref ty ∧ ∃ ys, SqT K G ty ys ∧ DpAll K G ys (((List.range l).map fun j => c i j).map cellD) := by
    cases hdy with
    | tup a b => exact ⟨_, rfl, _, a, b⟩
  obtain ⟨z, hz, hdz⟩ := DpAll.at hA2 (i := j) (d := cellD (c i j)) (by rw [List.getElem?_map, rowF_at hj] <;> rfl)
  obtain ⟨x, rfl⟩ : ∃ x, z = .ref x := by
    cases hdz with
    | tup a b => exact ⟨_, rfl⟩
  exact ⟨xs, ys, ty, x, hS, by rw [DpAll.len hA, List.length_map, tabF_len], hy, hS2, by rw [DpAll.len hA2, List.length_map, List.length_map, List.length_range], hz, hdz⟩
theorem ok_way_with (B : Bt mg) (T : Wt K mg C) (cM : Ma P w K mg base 4 "Way" C (spInit K C)) (F : Fun K "way_with" "way_with" s_way_with f fd) : FnOk P w K mg base CX0 6 f fd ["places", "table"] (spWith K C) := by
  refine F.ok sc_way_with (fun vs H Q E h => ?_) (fun cdv A outer s H vs Q E hr h => ?_)
  · obtain ⟨G, t, r, l, k, c, rfl, _⟩ := h
    rfl
  · obtain ⟨G, t, r, l, k, c, rfl, sG, hd, r1, r2, l1, l2, k1, k2, hok, q⟩ := h
    have nd := sc_way_with.nd
    refine ⟨_, (pss_cons (ps_set (i := 2) nd rfl (Or.inl rfl) (pe_ma cM hr (by decide) rfl (pa_cons (pe_callB call_len_seq (by rfl) B.len PySem.boot_len (pa_cons (pv 1) pa_nil)) (pa_cons (pe_callB call_len_seq (by rfl) B.len PySem.boot_len (pa_cons (pe_ix ix_tup (pv 1) pe_int (fun _ _ => rfl)) pa_nil)) (pa_cons (pv 0) pa_nil)))))
      (pss_cons (ps_fld (pv 2) (pv 1) rfl)
      (pss_one (ps_ret (pv 2))))), ?_⟩
    obtain ⟨xs, ys, ty, x0, h1, n1, h2, h3, n2, _⟩ := tab_at hd (i := 0) (j := 0) (by omega) (by omega)
    refine ⟨_, rfl, t, _, rfl, .inr (Evl.ex_t sG h1), _, rfl, t, _, _, _, rfl, rfl, Evl.ex_t sG h1, atI_nat h2, ty, _, rfl, .inr (Evl.ex_t sG h3), _, rfl, ?_⟩
    rw [n1, n2]
    dsimp only [tNil]
    refine mk_raw sG r1 r2 l1 l2 k1 k2 fun x dx t' G' H' nx a1 a2 a3 a4 a5 a6 a7 => ?_
    refine ⟨_, rfl, _, rfl, x, C, dx, _, rfl, a6, T.cl, T.nT, (by rw [wf_eq]; show 4 < 1000; decide), ?_⟩
    rw [wf_put]
    refine ⟨_, rfl, ?_⟩
    have nx' : ∀ p o, H p = some o → p ≠ x := fun p o e => ne_of_none e nx
    refine q x (upd G' x (.ins C dx (wf (.int (r : Nat)) (.int (l : Nat)) (.int (k : Nat)) (.ref t)))) _ (fut_add a1 (fun p o e => by rw [upd_ne (nx' p o e)]; exact a3 p o e) (Fut.mut a2 a5) a4 nx a5 upd_same) ⟨⟨dx, t, upd_same, Dp.mono (a1.trans (Same.new a5)) _ _ hd⟩, r1, r2, l1, l2, k1, k2, hok⟩
theorem ok_allowed (T : Wt K mg C) (cC : CalO P w K mg base 3 "check_walker" spChk) (F : Fun K "allowed" "Way.allowed" s_allowed f fd) : FnOk P w K mg base CX0 4 f fd ["self", "right", "left"] (spAllowed K C) := by
  refine F.ok sc_allowed (fun vs H Q E h => ?_) (fun cdv A outer s H vs Q E hr h => ?_)
  · obtain ⟨G, a, r, l, k, i, j, c, rfl, _⟩ := h
    rfl
  · obtain ⟨G, a, r, l, k, i, j, c, rfl, sG, W, hi, hj, q⟩ := h
    refine ⟨_, (pss_cons (ps_expr (pe_cO cC hr (by decide) rfl (pa_cons (pv 1) (pa_cons (pe_fld (pv 0) rfl) pa_nil))))
      (pss_cons (ps_expr (pe_cO cC hr (by decide) rfl (pa_cons (pv 2) (pa_cons (pe_fld (pv 0) rfl) pa_nil))))
      (pss_one (ps_ret (pe_ix ix_tup (pe_ix ix_tup (pe_fld (pv 0) rfl) (pv 1) (fun _ _ => rfl)) (pv 2) (fun _ _ => rfl)))))), ?_⟩
    obtain ⟨dx, t, ha, hd⟩ := W.ob
    obtain ⟨xs, ys, ty, x0, h1, n1, h2, h3, n2, h4, h5⟩ := tab_at hd hi hj
    have ha' := sG _ _ ha
    refine ⟨_, rfl, _, rfl, a, C, dx, _, _, rfl, ha', T.cl, T.nR, wf_r _ _ _ _, _, _, rfl, by omega, by omega, ?_⟩
    refine ⟨_, rfl, _, rfl, a, C, dx, _, _, rfl, ha', T.cl, T.nL, wf_l _ _ _ _, _, _, rfl, by omega, by omega, ?_⟩
    refine ⟨_, rfl, a, C, dx, _, _, rfl, ha', T.cl, T.nT, wf_t _ _ _ _, _, rfl, t, _, _, _, rfl, rfl, Evl.ex_t sG h1, atI_nat h2, _, rfl, ty, _, _, _, rfl, rfl, Evl.ex_t sG h3, atI_nat h4, ?_⟩
    exact q x0 h5
end
end W2

namespace W2
open PySem PySem.Spec PyProof.Rows L2 Pg Pf Rul Tab
theorem inV_ints (x : Int) : ∀ ns : List Int, inV (.int x) (ns.map V.int) = decide (x ∈ ns)
  | [] => rfl
  | n :: ns => by
    have ih := inV_ints x ns
    unfold inV at ih ⊢
    rw [List.map_cons, List.any_cons, ih]
    have e : eqV (.int n) (.int x) = decide (n = x) := by
      simp only [eqV]
      rw [Bool.eq_iff_iff]
      simp
    rw [e]
    by_cases h : n = x
    · subst h
      simp
    · have h' : ¬ x = n := fun z => h z.symm
      simp [h, h']
theorem flat_ints : ∀ ns : List Int, (ns.map V.int).all flatV = true
  | [] => rfl
  | n :: ns => by
    rw [List.map_cons, List.all_cons, flat_ints ns]
    rfl
theorem tabF_congr {r l : Nat} {f g : Nat → Nat → List Int} (h : ∀ i j, i < r → j < l → f i j = g i j) : tabF r l f = tabF r l g := by
  unfold tabF
  apply List.map_congr_left
  intro i hi
  apply List.map_congr_left
  intro j hj
  exact h i j (List.mem_range.mp hi) (List.mem_range.mp hj)
theorem pairs_at (l : Nat) (hl : 0 < l) : ∀ (r n : Nat), n < r * l → (pairsL r l)[n]? = some (n / l, n % l)
  | 0, n, h => by omega
  | r + 1, n, h => by
    rw [pairs_step]
    rw [Nat.succ_mul] at h
    by_cases hn : n < r * l
    · rw [List.getElem?_append_left (by rw [pairs_len]; exact hn)]
      exact pairs_at l hl r n hn
    · rw [List.getElem?_append_right (by rw [pairs_len]; omega), pairs_len, List.getElem?_map, List.getElem?_range (by omega)]
      have e1 : n = l * r + (n - r * l) := by rw [Nat.mul_comm l r]; omega
      have e2 : n / l = r := by
        rw [e1, Nat.mul_add_div hl, Nat.div_eq_of_lt (by omega), Nat.add_zero]
      have e3 : n % l = n - r * l := by
        rw [e1, Nat.mul_add_mod, Nat.mod_eq_of_lt (by omega), ← e1]
      rw [e2, e3]
      rfl
theorem idx_eq {l n i j : Nat} (hj : j < l) : i * l + j = n ↔ i = n / l ∧ j = n % l := by
  have hl : 0 < l := by omega
  constructor
  · intro h
    subst h
    rw [Nat.mul_comm i l]
    exact ⟨by rw [Nat.mul_add_div hl, Nat.div_eq_of_lt hj, Nat.add_zero], by rw [Nat.mul_add_mod, Nat.mod_eq_of_lt hj]⟩
  · rintro ⟨rfl, rfl⟩
    rw [Nat.mul_comm]
    exact Nat.div_add_mod n l
section
variable {P : Program} {w : World} {K : PySem.W.Frag} {mg : Str → Option Value} {base : Heap} {f C : Addr} {fd : FuncData}
theorem ok_checked (B : Bt mg) (T : Wt K mg C) (cN : CalO P w K mg base 2 "is_number" spNum) (F : Fun K "_checked_places" "Way._checked_places" s_checked f fd) : FnOk P w K mg base CX0 3 f fd ["self", "values"] (spChecked K C) := by
  refine F.ok sc_checked (fun vs H Q E h => ?_) (fun cdv A outer s H vs Q E hr h => ?_)
  · obtain ⟨G, a, t, r, l, k, c, ns, rfl, _⟩ := h
    rfl
  · obtain ⟨G, a, t, r, l, k, c, ns, rfl, sG, W, hT, hl, hns, q⟩ := h
    have nd := sc_checked.nd
    refine ⟨_, (pss_cons (ps_for PassesOwn.never rfl (pi_tup (pv 1)) (pg_name (i := 2) nd rfl (Or.inl rfl))
      (pss_one (ps_if (pt_not (pt_val (pe_cO cN hr (by decide) rfl (pa_cons (pv 2) (pa_cons pe_int (pa_cons (pe_op op_sub (pe_fld (pv 0) rfl) pe_int) pa_nil)))))) (pss_one ps_never) pss_nil)))
      (pss_one (ps_ret (pe_callTy call_tuple_of (by rfl) B.tuple (by decide +kernel) (pa_cons (pe_lc (own := [("place", 3)]) rfl nd (pi_range1 rfl B.range (pa_cons (pe_fld (pv 0) rfl) pa_nil)) (blkOk_by (N := N_checked) (sc := defScope s_checked) (by decide +kernel)) (fun _ _ _ _ _ => (pg_name (i := 3) nd rfl (Or.inl rfl))) (fun _ _ _ _ _ => pts_one (pt_cmpR (show OpR _ (compareOp .In) (rIn K false) from op_in_seq) (pv 3) (pv 1) (by rfl))) (fun _ _ _ _ _ => (pv 3))) pa_nil))))), ?_⟩
    obtain ⟨dx, t0, ha, hd⟩ := W.ob
    have ha' := sG _ _ ha
    have k2 := W.k2
    refine ⟨_, rfl, t, rfl, ⟨_, Evl.ex_t sG hT⟩, for_tup (K := K) (a := t) (xs := ns.map V.int) (fun i σ H2 => H2 = H ∧ ∃ v, σ = [some (.ref a), some (.ref t), v, none]) ⟨rfl, none, rfl⟩ (fun i σ H2 _ ⟨e, _⟩ => by rw [e]; exact Evl.ex_t sG hT) ?_ ?_⟩
    · rintro i x σ H2 hx ⟨rfl, v, rfl⟩
      rw [List.getElem?_map] at hx
      obtain ⟨z, hz, rfl⟩ : ∃ z, ns[i]? = some z ∧ x = V.int z := by
        cases e : ns[i]? with
        | none =>
          rw [e] at hx
          cases hx
        | some z =>
          rw [e] at hx
          exact ⟨z, rfl, (Option.some.inj hx).symm⟩
      have hz' := hns z (List.mem_of_getElem? hz)
      refine ⟨_, rfl, _, rfl, a, C, dx, _, _, rfl, ha', T.cl, T.nP, wf_k _ _ _ _, _, _, rfl, rfl, z, 0, (k : Int) - 1, rfl, _, rfl, ?_⟩
      rw [decide_eq_true hz'.1, decide_eq_true (show z ≤ (k : Int) - 1 by omega)]
      refine iteF ?_
      exact ⟨rfl, _, rfl⟩
    · rintro σ H2 ⟨rfl, v, rfl⟩
      refine ⟨_, rfl, a, C, dx, _, _, rfl, ha', T.cl, T.nP, wf_k _ _ _ _, (k : Nat), rfl, by omega, by omega, fun D hD => ?_⟩
      rw [show ((k : Nat) : Int).toNat = k by omega]
      refine lc_range (lo := 0) (n := k) (fun i H3 => ∃ acc : List Int, H3 D = some (.lst (acc.map V.int)) ∧ Same H2 H3 ∧ acc.length ≤ i ∧ acc = (((List.range i).map fun i => (0 : Int) + (i : Nat)).filter fun x => decide (x ∈ ns))) ⟨[], upd_same, Same.new hD, by simp, rfl⟩ ?_ ?_
      · rintro i H3 hi ⟨acc, hA, s3, la, ea⟩
        refine ⟨rfl, ?_⟩
        refine ⟨_, rfl, _, rfl, t, _, rfl, .inr (Evl.ex_t (sG.trans s3) hT), rfl, flat_ints ns, _, rfl, ?_⟩
        rw [if_neg Bool.false_ne_true, inV_ints]
        have es : ((List.range (i + 1)).map fun i => (0 : Int) + (i : Nat)) = ((List.range i).map fun i => (0 : Int) + (i : Nat)) ++ [(0 : Int) + (i : Nat)] := by
          rw [List.range_succ, List.map_append]
          rfl
        by_cases hm : (0 : Int) + (i : Nat) ∈ ns
        · rw [decide_eq_true hm]
          refine iteT ?_
          refine ⟨_, rfl, _, hA, small1000 (by rw [List.length_map]; omega), acc ++ [(0 : Int) + (i : Nat)], by rw [upd_same, List.map_append] <;> rfl, Fut.mut s3 hD, by rw [List.length_append]; show acc.length + 1 ≤ i + 1; omega, ?_⟩
          rw [es, List.filter_append, ← ea, List.filter_cons_of_pos (by exact decide_eq_true hm), List.filter_nil]
        · rw [decide_eq_false hm]
          refine iteF ?_
          refine ⟨acc, hA, s3, by omega, ?_⟩
          rw [es, List.filter_append, ← ea, List.filter_cons_of_neg (by rw [decide_eq_false hm]; exact Bool.false_ne_true), List.filter_nil, List.append_nil]
      · rintro H3 ⟨acc, hA, s3, la, ea⟩
        refine ⟨D, _, rfl, .inl ⟨SqL.of hA, fun p hp => ?_⟩⟩
        have fn := (Fut.up sG s3).trans (Fut.new (o := .tup (acc.map V.int)) (sG.trans s3) hp)
        refine q p _ _ fn ?_
        have e : acc = ((rangeI (k : Nat)).filter fun x => decide (x ∈ ns)) := by
          rw [ea]
          unfold rangeI
          rw [show ((k : Nat) : Int).toNat = k by omega]
        rw [← e]
        exact Evl.st_of upd_same
end
abbrev s_closing : Stmt := inClass (top 11) 13
abbrev N_closing : List Str := ["self", "right", "left", "places", "closed", "table", "one", "two", "still", "place"]
theorem sc_closing : FnScope N_closing ["self", "right", "left", "places"] (defScope s_closing) := ⟨rfl, rfl, rfl, by decide +kernel, rfl, by decide +kernel, by decide +kernel⟩
/-- without these places -/
def less (c : Nat → Nat → List Int) (i j : Nat) (ns : List Int) : Nat → Nat → List Int := put2 c i j ((c i j).filter fun x => !decide (x ∈ ns))
/-- closing(*places, right=i, left=j) -/
def spClosing (K : PySem.W.Frag) (C : Addr) : Sp := fun vs H Q _ => ∃ (G : Hp) (a t : Addr) (r l k i j : Nat) (c : Nat → Nat → List Int) (ns : List Int), vs = [.ref a, .int (i : Nat), .int (j : Nat), .ref t] ∧ Same G H ∧ WayAt K C G a r l k c ∧ SqT K G t (ns.map V.int) ∧ ns.length ≤ 1000 ∧ (∀ x ∈ ns, 0 ≤ x ∧ x < (k : Int)) ∧
  i < r ∧ j < l ∧ ((c i j).filter fun x => !decide (x ∈ ns)) ≠ [] ∧ ∀ (b : Addr) (G' H' : Hp), Fut G H G' H' → WayAt K C G' b r l k (less c i j ns) → Q (.ref b) H'
section
variable {P : Program} {w : World} {K : PySem.W.Frag} {mg : Str → Option Value} {base : Heap} {f C : Addr} {fd : FuncData}
theorem dpall_ints {K : PySem.W.Frag} {H : Hp} : ∀ {vs : List V} {ns : List Int}, DpAll K H vs (ns.map PyData.int) → vs = ns.map V.int
  | _, [], .nil => rfl
  | _, n :: ns, .cons a b => by
    cases a with
    | int z => rw [dpall_ints b] <;> rfl
theorem cell_vals {K : PySem.W.Frag} {H : Hp} {x : Addr} {ns : List Int} (h : Dp K H (.ref x) (cellD ns)) : SqT K H x (ns.map V.int) := by
  cases h with
  | tup a b =>
    rw [dpall_ints b] at a
    exact a
theorem pair_vals {K : PySem.W.Frag} {H : Hp} {v : V} {p : Nat × Nat} (h : Dp K H v (pairD p)) : ∃ x, v = .ref x ∧ SqT K H x [.int (p.1 : Nat), .int (p.2 : Nat)] := by
  cases h with
  | tup a b =>
    cases b with
    | cons b1 b2 =>
      cases b2 with
      | cons b2 b3 =>
        cases b1
        cases b2
        cases b3
        exact ⟨_, rfl, a⟩
theorem dec_int (a b : Nat) : decide (V.int (a : Nat) = V.int (b : Nat)) = decide (a = b) := by
  by_cases h : a = b
  · rw [decide_eq_true h, decide_eq_true (by rw [h])]
  · rw [decide_eq_false h, decide_eq_false (fun z => h (by injection z with z; omega))]
/-- the table after n pairs -/
def cn (c : Nat → Nat → List Int) (l i j : Nat) (ns : List Int) (n : Nat) : Nat → Nat → List Int := fun i' j' => if i' * l + j' < n then less c i j ns i' j' else c i' j'
theorem less_cell {k : Int} {c : Nat → Nat → List Int} {i j : Nat} {ns : List Int} (h : ∀ x y, Cell k (c x y) ∨ True) (x y : Nat) (hc : Cell k (c x y)) (hne : ((c i j).filter fun x => !decide (x ∈ ns)) ≠ []) : Cell k (less c i j ns x y) := by
  unfold less put2
  by_cases e : x = i ∧ y = j
  · rw [if_pos e]
    obtain ⟨rfl, rfl⟩ := e
    exact ⟨hne, hc.2.1.filter _, fun z hz => hc.2.2 z (List.mem_filter.mp hz).1⟩
  · rw [if_neg e]
    exact hc
theorem mem_range {k z : Int} (h1 : 0 ≤ z) (h2 : z < k) : z ∈ rangeI k := by
  unfold rangeI
  exact List.mem_map.mpr ⟨z.toNat, List.mem_range.mpr (by omega), by omega⟩
theorem asc_len : ∀ {ns : List Int} {a b : Int}, ns.Pairwise (· < ·) → (∀ x ∈ ns, a ≤ x ∧ x < b) → a ≤ b → (ns.length : Int) ≤ b - a
  | [], a, b, _, _, h => by simp; omega
  | n :: ns, a, b, hp, hm, h => by
    rw [List.pairwise_cons] at hp
    have h0 := hm n List.mem_cons_self
    have ih := asc_len (ns := ns) (a := n + 1) (b := b) hp.2 (fun x hx => ⟨by have := hp.1 x hx; omega, (hm x (List.mem_cons_of_mem _ hx)).2⟩) (by omega)
    rw [List.length_cons]
    omega
theorem cell_len {k : Int} {ns : List Int} (h : Cell k ns) (hk : k ≤ 12) : ns.length ≤ 12 := by
  obtain ⟨h0, h1, h2⟩ := h
  have hk0 : 0 ≤ k := by
    cases ns with
    | nil => exact absurd rfl h0
    | cons a b =>
      have := h2 a List.mem_cons_self
      omega
  have := asc_len h1 h2 hk0
  omega
/-- the body of closing -/
theorem body_closing (B : Bt mg) (T : Wt K mg C) (cC : CalO P w K mg base 3 "check_walker" spChk) (cK : Mo P w K mg base 3 C "_checked_places" (spChecked K C)) (cP : CalO P w K mg base 4 "pairs_of" (spPairs K C)) (cW : CalO P w K mg base 2 "with_cell" (spCell K)) (cX : CalO P w K mg base 6 "way_with" (spWith K C))
    {cdv : Value} {A : Around} {outer : List Env} {s : Shared} {H : Hp} {vs : List V} {Q : VK} (hr : Room 6 (A.deeper (envOfC "Way.closing" (defScope s_closing) s.heap.objs.size f cdv))) (h : spClosing K C vs H Q E0) :
    ∃ t, PSs (cxOf CX0 P w K mg base N_closing "Way.closing" (defScope s_closing) f cdv A outer s H E0) (defBody s_closing) t ∧ t { nx := fun _ H' => Q .non H', rt := Q } (start N_closing vs) H := by
  obtain ⟨G, a, t, r, l, k, i, j, c, ns, rfl, sG, W, hT, hl, hns, hi, hj, hne, q⟩ := h
  have nd := sc_closing.nd
  refine ⟨_, PSs.nox (pss_cons (ps_if (pt_cmpR op_notN (pv 1) pe_non (nomark _)) (pss_one (ps_expr (pe_cO cC hr (by decide) rfl (pa_cons (pv 1) (pa_cons (pe_fld (pv 0) rfl) pa_nil))))) pss_nil)
    (pss_cons (ps_if (pt_cmpR op_notN (pv 2) pe_non (nomark _)) (pss_one (ps_expr (pe_cO cC hr (by decide) rfl (pa_cons (pv 2) (pa_cons (pe_fld (pv 0) rfl) pa_nil))))) pss_nil)
    (pss_cons (ps_set (i := 4) nd rfl (Or.inr rfl) (pe_mo cK hr (by decide) (pv 0) (pa_cons (pv 3) pa_nil)))
    (pss_cons (ps_set (i := 5) nd rfl (Or.inl rfl) (pe_fld (pv 0) rfl))
    (pss_cons (ps_for PassesOwn.never rfl (pi_list (pe_cO cP hr (by decide) rfl (pa_cons (pv 0) pa_nil))) (pg_tup rfl (pgs_cons (pg_name (i := 6) nd rfl (Or.inl rfl)) (pgs_cons (pg_name (i := 7) nd rfl (Or.inl rfl)) pgs_nil)))
    (pss_one (ps_if (PW.pt (pw_and (PW.pt (pw_or (pt_cmpR op_isN (pv 1) pe_non (nomark _)) (pw_or1 (pt_cmpR op_eq (pv 1) (pv 6) (nomark _))))) (pw_and1 (PW.pt (pw_or (pt_cmpR op_isN (pv 2) pe_non (nomark _)) (pw_or1 (pt_cmpR op_eq (pv 2) (pv 7) (nomark _)))))))) (pss_cons (ps_set (i := 8) nd rfl (Or.inl rfl) (pe_callTy call_tuple_of (by rfl) B.tuple (by decide +kernel) (pa_cons (pe_lc (own := [("place", 9)]) rfl nd (pi_tup (pe_ix ix_tup (pe_ix ix_tup (pe_fld (pv 0) rfl) (pv 6) (fun _ _ => rfl)) (pv 7) (fun _ _ => rfl))) (blkOk_by (N := N_closing) (sc := defScope s_closing) (by decide +kernel)) (fun _ _ _ _ _ => (pg_name (i := 9) nd rfl (Or.inl rfl))) (fun _ _ _ _ _ => pts_one (pt_cmpR (show OpR _ (compareOp .NotIn) (rIn K true) from op_notIn_seq) (pv 9) (pv 4) (by rfl))) (fun _ _ _ _ _ => (pv 9))) pa_nil)))
    (pss_cons (ps_if (pt_cmpR op_eq (pe_callB call_len_seq (by rfl) B.len PySem.boot_len (pa_cons (pv 8) pa_nil)) pe_int (nomark _)) (pss_one ps_never) pss_nil)
    (pss_one (ps_set (i := 5) nd rfl (Or.inl rfl) (pe_cO cW hr (by decide) rfl (pa_cons (pv 5) (pa_cons (pv 6) (pa_cons (pv 7) (pa_cons (pv 8) pa_nil))))))))) pss_nil)))
    (pss_one (ps_ret (pe_cO cX hr (by decide) rfl (pa_cons (pe_fld (pv 0) rfl) (pa_cons (pv 5) pa_nil)))))))))), ?_⟩
  obtain ⟨dx, t0, ha, hd⟩ := W.ob
  have ha' := sG _ _ ha
  have r2 := W.r2
  have l2 := W.l2
  have k2 := W.k2
  refine ⟨_, rfl, rfl, _, rfl, ?_⟩
  refine iteT ?_
  refine ⟨_, rfl, _, rfl, a, C, dx, _, _, rfl, ha', T.cl, T.nR, wf_r _ _ _ _, _, _, rfl, by omega, by omega, ?_⟩
  refine ⟨_, rfl, rfl, _, rfl, ?_⟩
  refine iteT ?_
  refine ⟨_, rfl, _, rfl, a, C, dx, _, _, rfl, ha', T.cl, T.nL, wf_l _ _ _ _, _, _, rfl, by omega, by omega, ?_⟩
  refine ⟨_, rfl, a, dx, _, rfl, ha', wf_no _ _ _ _ (by decide +kernel) (by decide +kernel) (by decide +kernel) (by decide +kernel), _, rfl, G, a, t, r, l, k, c, ns, rfl, sG, W, hT, hl, hns, fun p1 G1 H1 f1 h1 => ?_⟩
  refine ⟨_, rfl, a, C, dx, _, _, rfl, f1.h _ _ ha', T.cl, T.nT, wf_t _ _ _ _, ?_⟩
  refine ⟨_, rfl, G1, a, r, l, k, c, rfl, f1.s, W.mono f1.g, fun p2 G2 H2 f2 d2 => ?_⟩
  obtain ⟨vp, hL, hP⟩ : ∃ vp, SqL K G2 p2 vp ∧ DpAll K G2 vp ((pairsL r l).map pairD) := by
    cases d2 with
    | lst a b => exact ⟨_, a, b⟩
  have lvp : vp.length = r * l := by rw [DpAll.len hP, List.length_map, pairs_len]
  have f12 := f1.trans f2
  have hl0 : 0 < l := by omega
  refine ⟨p2, rfl, ⟨_, Same.seq f2.s hL⟩, for_list (K := K) (a := p2) (xs := vp) (fun n σ H3 => ∃ (G3 : Hp) (t' : Addr) (v6 v7 v8 : Option V), σ = [some (.ref a), some (.int (i : Nat)), some (.int (j : Nat)), some (.ref t), some (.ref p1), some (.ref t'), v6, v7, v8, none] ∧
      Fut G H G3 H3 ∧ Same G2 G3 ∧ Dp K G3 (.ref t') (tabT (tabF r l (cn c l i j ns n))))
    ⟨G2, t0, none, none, none, rfl, f12, Same.refl _, ?_⟩ (fun n σ H3 _ ⟨G3, _, _, _, _, _, f3, g3, _⟩ => Same.seq (g3.trans f3.s) hL) ?_ ?_⟩
  · have e : tabF r l (cn c l i j ns 0) = tabF r l c := tabF_congr fun x y _ _ => by unfold cn; rw [if_neg (by omega)]
    rw [e]
    exact Dp.mono f12.g _ _ hd
  · rintro n x σ H3 hx ⟨G3, t', v6, v7, v8, rfl, f3, g3, d3⟩
    have hn : n < r * l := by
      rw [← lvp]
      exact (List.getElem?_eq_some_iff.mp hx).1
    obtain ⟨d, hd1, hd2⟩ := DpAll.at' hP hx
    rw [List.getElem?_map, pairs_at l hl0 r n hn] at hd1
    obtain rfl := Option.some.inj hd1
    obtain ⟨px, rfl, hpx⟩ := pair_vals hd2
    have hnr : n / l < r := Nat.div_lt_of_lt_mul (by rw [Nat.mul_comm]; exact hn)
    have hnl : n % l < l := Nat.mod_lt _ hl0
    have step : ∀ i' j', i' < r → j' < l → (¬ (i' = n / l ∧ j' = n % l) → cn c l i j ns (n + 1) i' j' = cn c l i j ns n i' j') := fun i' j' _ hj' h => by
      have h' : i' * l + j' ≠ n := fun z => h ((idx_eq hj').mp z)
      unfold cn
      by_cases z : i' * l + j' < n
      · rw [if_pos z, if_pos (by omega)]
      · rw [if_neg z, if_neg (by omega)]
    have at_n : cn c l i j ns (n + 1) (n / l) (n % l) = less c i j ns (n / l) (n % l) := by
      unfold cn
      rw [(idx_eq hnl).mpr ⟨rfl, rfl⟩, if_pos (Nat.lt_succ_self n)]
    have at_n0 : cn c l i j ns n (n / l) (n % l) = c (n / l) (n % l) := by
      unfold cn
      rw [(idx_eq hnl).mpr ⟨rfl, rfl⟩, if_neg (Nat.lt_irrefl n)]
    have same_if : less c i j ns (n / l) (n % l) = c (n / l) (n % l) → tabF r l (cn c l i j ns (n + 1)) = tabF r l (cn c l i j ns n) := fun h => tabF_congr fun i' j' h1 h2 => by
      by_cases z : i' = n / l ∧ j' = n % l
      · obtain ⟨rfl, rfl⟩ := z
        rw [at_n, at_n0, h]
      · exact step i' j' h1 h2 z
    refine ⟨px, _, rfl, Evl.ex_t (g3.trans f3.s) hpx, rfl, _, _, rfl, _, _, rfl, rfl, ?_⟩
    refine ⟨_, rfl, rfl, _, rfl, ?_⟩
    refine iteF ?_
    refine ⟨_, rfl, _, rfl, rfl, _, rfl, ?_⟩
    rw [dec_int]
    by_cases e1 : i = n / l
    · rw [decide_eq_true e1]
      refine iteT ?_
      refine ⟨_, rfl, rfl, _, rfl, ?_⟩
      refine iteF ?_
      refine ⟨_, rfl, _, rfl, rfl, _, rfl, ?_⟩
      rw [dec_int]
      by_cases e2 : j = n % l
      · rw [decide_eq_true e2]
        refine iteT ?_
        subst e1
        subst e2
        obtain ⟨xs, ys, ty, x0, b1, n1, b2, b3, n2, b4, b5⟩ := tab_at hd hi hj
        have g03 : Same G H3 := sG.trans f3.h
        refine ⟨_, rfl, a, C, dx, _, _, rfl, f3.h _ _ ha', T.cl, T.nT, wf_t _ _ _ _, _, rfl, t0, _, _, _, rfl, rfl, Evl.ex_t g03 b1, atI_nat b2, _, rfl, ty, _, _, _, rfl, rfl, Evl.ex_t g03 b3, atI_nat b4, x0, rfl, ⟨_, Evl.ex_t g03 (cell_vals b5)⟩, fun D hD => ?_⟩
        have hc := W.ok _ _ hi hj
        have lc12 : (c (n / l) (n % l)).length ≤ 1000 := by
          have h1 : (c (n / l) (n % l)).length ≤ 12 := cell_len hc (by omega)
          omega
        refine lc_it walk_tup (fun m H4 => ∃ acc : List Int, H4 D = some (.lst (acc.map V.int)) ∧ Same H3 H4 ∧ acc.length ≤ m ∧ acc = ((c (n / l) (n % l)).take m).filter fun x => !decide (x ∈ ns)) ⟨[], upd_same, Same.new hD, by simp, by simp⟩ (fun m H4 _ ⟨_, _, s4, _⟩ => Evl.ex_t (g03.trans s4) (cell_vals b5)) ?_ ?_
        · rintro m x H4 H5 hm ⟨acc, hA, s4, la, ea⟩ ⟨rfl, hx⟩
          rw [List.length_map] at hm
          obtain ⟨z, hz, rfl⟩ : ∃ z, (c (n / l) (n % l))[m]? = some z ∧ x = V.int z := by
            rw [List.getElem?_map] at hx
            cases e : (c (n / l) (n % l))[m]? with
            | none =>
              rw [e] at hx
              cases hx
            | some z =>
              rw [e] at hx
              exact ⟨z, rfl, (Option.some.inj hx).symm⟩
          have hz' := hc.2.2 z (List.mem_of_getElem? hz)
          have hin : (z ∈ ((rangeI (k : Nat)).filter fun x => decide (x ∈ ns))) ↔ z ∈ ns := by
            rw [List.mem_filter, decide_eq_true_eq]
            exact ⟨fun h => h.2, fun h => ⟨mem_range hz'.1 hz'.2, h⟩⟩
          have ht : (c (n / l) (n % l)).take (m + 1) = (c (n / l) (n % l)).take m ++ [z] := by rw [List.take_add_one, hz] <;> rfl
          refine ⟨rfl, ?_⟩
          refine ⟨_, rfl, _, rfl, p1, _, rfl, .inr (Evl.ex_t ((f2.g.trans g3).trans (f3.s.trans s4)) h1), rfl, flat_ints _, _, rfl, ?_⟩
          rw [if_pos rfl, inV_ints, decide_eq_decide.mpr hin]
          by_cases hm : z ∈ ns
          · rw [decide_eq_true hm]
            refine iteF ?_
            refine ⟨acc, hA, s4, by omega, ?_⟩
            rw [ht, List.filter_append, ← ea, List.filter_cons_of_neg (by rw [decide_eq_true hm]; exact Bool.false_ne_true), List.filter_nil, List.append_nil]
          · rw [decide_eq_false hm]
            refine iteT ?_
            refine ⟨_, rfl, _, hA, small1000 (by rw [List.length_map]; omega), acc ++ [z], by rw [upd_same, List.map_append] <;> rfl, Fut.mut s4 hD, by rw [List.length_append]; show acc.length + 1 ≤ m + 1; omega, ?_⟩
            rw [ht, List.filter_append, ← ea, List.filter_cons_of_pos (by rw [decide_eq_false hm]; rfl), List.filter_nil]
        · rintro H4 ⟨acc, hA, s4, la, ea⟩
          rw [List.length_map, List.take_length] at ea
          have f4 := f3.trans (Fut.up f3.s s4)
          refine ⟨D, _, rfl, .inl ⟨SqL.of hA, fun p3 hp3 => ?_⟩⟩
          have fn := Fut.new (o := .tup (acc.map V.int)) f4.s hp3
          have f5 := f4.trans fn
          refine ⟨_, rfl, p3, _, rfl, .inr (Evl.st_of upd_same), rfl, _, rfl, ?_⟩
          have nz : ¬ (V.int ((acc.map V.int).length : Nat) = V.int 0) := fun z => by
            injection z with z
            rw [List.length_map] at z
            exact hne (by rw [← ea]; exact List.eq_nil_of_length_eq_zero (by omega))
          rw [decide_eq_false nz]
          refine iteF ?_
          refine ⟨_, rfl, _, rfl, _, rfl, _, rfl, _, t', p3, r, l, n / l, n % l, cn c l (n / l) (n % l) ns n, acc, rfl, f5.s, Dp.mono fn.g _ _ d3, hnr, hnl, r2, l2, dp_cell upd_same, fun p4 G6 H6 f6 d6 => ?_⟩
          have eT : tabF r l (put2 (cn c l (n / l) (n % l) ns n) (n / l) (n % l) acc) = tabF r l (cn c l (n / l) (n % l) ns (n + 1)) := tabF_congr fun i' j' h1 h2 => by
            unfold put2
            by_cases z : i' = n / l ∧ j' = n % l
            · rw [if_pos z, z.1, z.2, at_n, ea]
              unfold less put2
              rw [if_pos ⟨rfl, rfl⟩]
            · rw [if_neg z]
              exact (step i' j' h1 h2 z).symm
          rw [eT] at d6
          exact ⟨G6, p4, _, _, _, rfl, f5.trans f6, (g3.trans fn.g).trans f6.g, d6⟩
      · rw [decide_eq_false e2]
        refine iteF ?_
        refine ⟨G3, t', _, _, _, rfl, f3, g3, ?_⟩
        rw [same_if (by unfold less put2; rw [if_neg (fun z => e2 z.2.symm)])]
        exact d3
    · rw [decide_eq_false e1]
      refine iteF ?_
      refine iteF ?_
      refine ⟨G3, t', _, _, _, rfl, f3, g3, ?_⟩
      rw [same_if (by unfold less put2; rw [if_neg (fun z => e1 z.1.symm)])]
      exact d3
  · rintro σ H3 ⟨G3, t', v6, v7, v8, rfl, f3, g3, d3⟩
    have e : tabF r l (cn c l i j ns vp.length) = tabF r l (less c i j ns) := tabF_congr fun x y hx hy => by
      unfold cn
      rw [if_pos]
      rw [lvp]
      have := Nat.mul_le_mul_right l (show x + 1 ≤ r by omega)
      rw [Nat.succ_mul] at this
      omega
    rw [e] at d3
    refine ⟨_, rfl, a, C, dx, _, _, rfl, f3.h _ _ ha', T.cl, T.nP, wf_k _ _ _ _, _, rfl, ?_⟩
    exact ⟨G3, t', r, l, k, less c i j ns, rfl, f3.s, d3, W.r1, W.r2, W.l1, W.l2, W.k1, W.k2, fun x y hx hy => less_cell (fun _ _ => .inr True.intro) x y (W.ok x y hx hy) hne, fun b G4 H4 f4 W4 => q b G4 H4 (f3.trans f4) W4⟩
end
end W2

namespace W2
open PySem PySem.Spec PyProof.Rows L2 Pg Pf Rul Tab
theorem bind_closing (kV doc pm : Value) (an : Option Addr) (cdv ct : Value) (u v w2 w3 : Value) :
    bindArgs (PySem.W.fnOf "closing" "Way.closing" (defArgs s_closing) (defBody s_closing) (defScope s_closing) .none kV doc pm an cdv ct) ⟨[u, v], [("right", w2), ("left", w3)]⟩ =
      (newTuple [v] >>= fun t => pure ([("self", u), ("right", w2), ("left", w3), ("places", t)] : List (Str × Value))) := by
  rfl
/-- closing as a method: one place, both walkers by name -/
structure Clo (P : Program) (w : World) (K : PySem.W.Frag) (mg : Str → Option Value) (base : Heap) (k : Nat) (C : Addr) (sp : Sp) : Prop where
  ex : ∃ f : Addr, Cls K C ∧ Meth K C "closing" f ∧ ∀ (A : Around) (outer : List Env) (s : Shared) (H : Hp) (us : List Value) (a : Addr) (v x y : V) (Q : VK), Room k A → Env0 P w K mg base A outer s H → Vals [.ref a, v, x, y] us →
    (∀ p, H p = none → sp [.ref a, x, y, .ref p] (upd H p (.tup [v])) Q E0) →
    ∀ u0 u1 u2 u3, us = [u0, u1, u2, u3] → codeAny (model P w) A (.call (.ref f) ⟨[u0, u1], [("right", u2), ("left", u3)]⟩) (CR CX0 outer P w H s Q E0) s
def tClo (C : Addr) (sp : Sp) (ta t1 t2 t3 : TE) : TE := fun σ H Q => ta σ H fun x H1 => ∃ a dx fs, x = .ref a ∧ H1 a = some (.ins C dx fs) ∧ fs.lookup ("closing" : Str) = none ∧
  tCons t1 tNil σ H1 fun vs H2 => tCons t2 (tCons t3 tNil) σ H2 fun zs H3 => ∃ y1 y2 y3, vs = [y1] ∧ zs = [y2, y3] ∧ ∀ p, H3 p = none → sp [.ref a, y2, y3, .ref p] (upd H3 p (.tup [y1])) Q E0
section
variable {P : Program} {w : World} {K : PySem.W.Frag} {mg : Str → Option Value} {base : Heap} {f C : Addr} {fd : FuncData}
theorem clo_of (cl : Cls K C) (me : Meth K C "closing" f) (F : Fun K "closing" "Way.closing" s_closing f fd) (B : Bt mg) (T : Wt K mg C) (cC : CalO P w K mg base 3 "check_walker" spChk) (cK : Mo P w K mg base 3 C "_checked_places" (spChecked K C)) (cP : CalO P w K mg base 4 "pairs_of" (spPairs K C)) (cW : CalO P w K mg base 2 "with_cell" (spCell K)) (cX : CalO P w K mg base 6 "way_with" (spWith K C)) :
    Clo P w K mg base 7 C (spClosing K C) := by
  refine ⟨f, cl, me, fun A outer s H us a v x y Q hr e0 rv hsp u0 u1 u2 u3 eu => ?_⟩
  subst eu
  obtain ⟨oc, od, kV, doc, pm, an, cdv, ct, osl, rfl, lk, hcd⟩ := F.ex
  cases rv with
  | cons r0 rv =>
  cases rv with
  | cons r1 rv =>
  cases rv with
  | cons r2 rv =>
  cases rv with
  | cons r3 rv =>
  have hn : H s.heap.objs.size = Option.none := e0.hok.fresh (Nat.le_refl _)
  refine StX.run_bnd lk hcd sc_closing hr e0 (G := fun xs H2 => ∃ p, H p = Option.none ∧ xs = [.ref a, x, y, V.ref p] ∧ H2 = upd H p (.tup [v])) (fun A' Ex Q' h => ?_) fun s2 H2 xs ⟨p, hp, ex, eH⟩ hr' => ?_
  · rw [bind_closing]
    refine wpAny_bind (wpAny_newTuple (wpAny_pure ?_) (by show 1 ≤ sizeLine; decide))
    have new : ObjOk P w (upd H s.heap.objs.size (.tup [v])) (s.heap.push ({ cls := .type "tuple", data := .seq [u1].toArray } : Obj)) s.heap.objs.size (.tup [v]) := ⟨by show 1 ≤ sizeLine; decide, [u1], .cons r1 .nil, ⟨_, Heap.get?_push_size _ rfl, rfl, _, rfl⟩⟩
    have un := StX.un_laid (fs := frs outer) (s := s) (o := ({ cls := .type "tuple", data := .seq [u1].toArray } : Obj)) (u := .tup [v]) hn
    exact h _ _ [.ref a, x, y, V.ref s.heap.objs.size] [u0, u2, u3, Value.ref s.heap.objs.size] (StX.env0_laid e0 new) un rfl (fun e s' z => z) (.cons r0 (.cons r2 (.cons r3 (.cons rfl .nil)))) rfl ⟨_, hn, rfl, rfl⟩
  · subst ex eH
    exact body_closing B T cC cK cP cW cX hr' (hsp p hp)
end
section
variable {X : Cx} {k j : Nat} {C : Addr} {sp : Sp} {pos apos q2 q3 : Pos} {o e1 e2 e3 : Expr} {ta t1 t2 t3 : TE}
theorem pe_closing {pl : Sem Bool} (c : Clo X.prog X.w X.K X.mg X.base k C sp) (hr : Room j X.A) (hk : k ≤ j) (he : PE X o ta) (h1 : PE X e1 t1) (h2 : PE X e2 t2) (h3 : PE X e3 t3)
    (hst : starEach [e1] X.env = (false, eval e1 X.env) :: starEach [] X.env := by rfl)
    (hpl : ((backTo pos (starEach [e1] X.env)).any (·.1) || (backToKw pos (keywordEach [⟨some "right", e2, q2⟩, ⟨some "left", e3, q3⟩] X.env)).any (·.1.isNone)) = false := by rfl)
    (hall : (backToKw pos (keywordEach [⟨some "right", e2, q2⟩, ⟨some "left", e3, q3⟩] X.env)).all (·.1.isSome) = true := by rfl)
    (ht : eval (.Call (.Attribute o "closing" apos) [e1] [⟨some "right", e2, q2⟩, ⟨some "left", e3, q3⟩] pos) X.env = (do
      let ov ← eval o X.env
      standAt apos.atName
      let (f, first) ← holding [ov] (getMethod ov "closing" pl)
      callWith pos f first (backTo pos (starEach [e1] X.env)) (backToKw pos (keywordEach [⟨some "right", e2, q2⟩, ⟨some "left", e3, q3⟩] X.env))) := by rfl) :
    PE X (.Call (.Attribute o "closing" apos) [e1] [⟨some "right", e2, q2⟩, ⟨some "left", e3, q3⟩] pos) (tClo C sp ta t1 t2 t3) := by
  obtain ⟨f, cl, me, run⟩ := c.ex
  refine ⟨fun pins s σ H Q I h => ?_⟩
  refine PySem.W.methodCall_KW (pl := pl) (thn (he.run pins s σ H _ I h) fun u s1 ⟨x, H1, I1, rx, a, dx, fs, ex, ea, l, q⟩ => ?_) ht
  subst ex
  obtain rfl : u = Value.ref a := rx
  refine getmeth_ok I1 ea cl me l ?_
  refine PySem.W.callWith_KW (first := [.ref a]) (h₀ := X.base) I1.ok.mod.kin me.kp hall (thn ((pa_cons h1 pa_nil hst).run pos pins s1 σ H1 _ I1 q) fun us s2 ⟨vs, H2, I2, r, q2⟩ => ?_) hpl hst
  refine thn ((pk_cons h2 (pk_cons h3 pk_nil)).run pos pins s2 σ H2 _ I2 q2) fun ws s3 ⟨zs, H3, I3, rz, y1, y2, y3, ev, ez, q3⟩ => ⟨I3.kIn, ?_⟩
  subst ev
  subst ez
  obtain ⟨u1, rfl, r1⟩ := vals1 r
  obtain ⟨w2, w3, rfl, r2, r3⟩ := vals2 rz
  show wpAny (model X.prog X.w) X.A (call (.ref f) [.ref a, u1] [("right", w2), ("left", w3)]) (EP X pins σ Q) X.xe s3
  refine wpAny_call (codeAny_mono (run X.A X.stack s3 H3 [.ref a, u1, w2, w3] a y1 y2 y3 Q (hr.mono hk) I3.env0 (.cons rfl (.cons r1 (.cons r2 (.cons r3 .nil)))) q3 _ _ _ _ rfl) fun r s' hq => ?_)
  cases r with
  | error e => exact False.elim hq
  | ok fl =>
    cases fl with
    | ret u => exact I3.after hq
    | next => exact False.elim hq
    | brk => exact False.elim hq
    | cont => exact False.elim hq
end
end W2

namespace W2
open PySem PySem.Spec PyProof.Rows L2 Pg Pf Rul Tab
theorem asc_ext : ∀ {as bs : List Int}, as.Pairwise (· < ·) → bs.Pairwise (· < ·) → (∀ x, x ∈ as ↔ x ∈ bs) → as = bs
  | [], [], _, _, _ => rfl
  | [], b :: bs, _, _, h => absurd ((h b).mpr List.mem_cons_self) (by simp)
  | a :: as, [], _, _, h => absurd ((h a).mp List.mem_cons_self) (by simp)
  | a :: as, b :: bs, ha, hb, h => by
    rw [List.pairwise_cons] at ha hb
    have e : a = b := by
      rcases List.mem_cons.mp ((h a).mp List.mem_cons_self) with z | z
      · exact z
      · rcases List.mem_cons.mp ((h b).mpr List.mem_cons_self) with y | y
        · exact y.symm
        · have h1 := hb.1 a z
          have h2 := ha.1 b y
          omega
    subst e
    rw [asc_ext ha.2 hb.2 fun x => ?_]
    constructor
    · intro hx
      rcases List.mem_cons.mp ((h x).mp (List.mem_cons_of_mem _ hx)) with z | z
      · have := ha.1 x hx
        omega
      · exact z
    · intro hx
      rcases List.mem_cons.mp ((h x).mpr (List.mem_cons_of_mem _ hx)) with z | z
      · have := hb.1 x hx
        omega
      · exact z
theorem range_asc (k : Int) : (rangeI k).Pairwise (· < ·) := by
  unfold rangeI
  rw [List.pairwise_map]
  exact List.pairwise_lt_range.imp fun h => by omega
theorem range_mem {k x : Int} : x ∈ rangeI k → 0 ≤ x ∧ x < k := by
  intro h
  unfold rangeI at h
  obtain ⟨i, hi, rfl⟩ := List.mem_map.mp h
  rw [List.mem_range] at hi
  omega
theorem filter_cell {k : Int} {ns : List Int} (h : Cell k ns) : ((rangeI k).filter fun x => decide (x ∈ ns)) = ns :=
  asc_ext ((range_asc k).filter _) h.2.1 fun x => by
    rw [List.mem_filter, decide_eq_true_eq]
    exact ⟨fun z => z.2, fun z => ⟨mem_range (h.2.2 x z).1 (h.2.2 x z).2, z⟩⟩
/-- a net as data, by its entries -/
def netF (e w k : Nat) (c : Nat → Nat → List Int) : PyData := .tuple [.int (e : Nat), .int (w : Nat), .int (k : Nat), tabL (tabF e w c)]
/-- what stays of all places when some are gone -/
def stay (k : Int) (gone : List Int) : List Int := (rangeI k).filter fun x => !decide (x ∈ gone)
theorem stay_snoc (k : Int) (gone : List Int) (z : Int) : (stay k gone).filter (fun x => !decide (x ∈ [z])) = stay k (gone ++ [z]) := by
  unfold stay
  rw [List.filter_filter]
  apply List.filter_congr
  intro x _
  by_cases h1 : x ∈ gone <;> by_cases h2 : x = z <;> simp [h1, h2]
theorem stay_nil (k : Int) : stay k [] = rangeI k := by
  unfold stay
  simp
def goneOf (k : Int) (ns : List Int) : List Int := (rangeI k).filter fun x => !decide (x ∈ ns)
theorem stay_gone {k : Int} {ns : List Int} (h : Cell k ns) : stay k (goneOf k ns) = ns := by
  have e : stay k (goneOf k ns) = (rangeI k).filter fun x => decide (x ∈ ns) := by
    unfold stay goneOf
    apply List.filter_congr
    intro x hx
    by_cases h1 : x ∈ ns <;> simp [h1, hx]
  rw [e, filter_cell h]
theorem stay_ne {k : Int} {ns gone : List Int} (h : Cell k ns) (hg : ∀ x ∈ gone, x ∈ goneOf k ns) : stay k gone ≠ [] := by
  obtain ⟨h0, h1, h2⟩ := h
  cases ns with
  | nil => exact absurd rfl h0
  | cons a b =>
    intro z
    have ha := h2 a List.mem_cons_self
    have : a ∈ stay k gone := by
      unfold stay
      rw [List.mem_filter]
      refine ⟨mem_range ha.1 ha.2, ?_⟩
      have : ¬ a ∈ gone := fun y => by
        have := hg a y
        unfold goneOf at this
        rw [List.mem_filter] at this
        simp at this
      simp [this]
    rw [z] at this
    cases this
theorem stay_cell {k : Int} {ns gone : List Int} (h : Cell k ns) (hg : ∀ x ∈ gone, x ∈ goneOf k ns) : Cell k (stay k gone) :=
  ⟨stay_ne h hg, (range_asc k).filter _, fun x hx => range_mem (List.mem_filter.mp hx).1⟩
/-- the net's list of rows: how it is read -/
theorem net_vals {K : PySem.W.Frag} {G : Hp} {t : Addr} {e w k : Nat} {c : Nat → Nat → List Int} (h : Dp K G (.ref t) (netF e w k c)) :
    ∃ (rl : Addr) (xs : List V), SqT K G t [.int (e : Nat), .int (w : Nat), .int (k : Nat), .ref rl] ∧ SqL K G rl xs ∧ DpAll K G xs ((tabF e w c).map rowL) := by
  cases h with
  | tup a b =>
    cases b with
    | cons b1 b =>
    cases b with
    | cons b2 b =>
    cases b with
    | cons b3 b =>
    cases b with
    | cons b4 b =>
    cases b
    cases b1
    cases b2
    cases b3
    cases b4 with
    | lst a2 b2 => exact ⟨_, _, a, a2, b2⟩
theorem row_vals {K : PySem.W.Frag} {G : Hp} {v : V} {r : List (List Int)} (h : Dp K G v (rowL r)) : ∃ (x : Addr) (ys : List V), v = .ref x ∧ SqL K G x ys ∧ DpAll K G ys (r.map cellD) := by
  cases h with
  | lst a b => exact ⟨_, _, rfl, a, b⟩
def spWay (K : PySem.W.Frag) (C : Addr) : Sp := fun vs H Q _ => ∃ (G : Hp) (t : Addr) (e w k : Nat) (c : Nat → Nat → List Int), vs = [.ref t] ∧ Same G H ∧ Dp K G (.ref t) (netF e w k c) ∧ 1 ≤ e ∧ e ≤ 6 ∧ 1 ≤ w ∧ w ≤ 6 ∧ 1 ≤ k ∧ k ≤ 12 ∧ (∀ i j, i < e → j < w → Cell (k : Int) (c i j)) ∧
  ∀ (a : Addr) (G' H' : Hp), Fut G H G' H' → WayAt K C G' a e w k c → Q (.ref a) H'
abbrev s__law_way : Stmt := top 23
abbrev N__law_way : List Str := ["_law_net_here", "_law_road", "_law_n", "_law_row", "_law_k", "_law_some_here", "_law_spot", "_law_gone"]
theorem sc__law_way : FnScope N__law_way ["_law_net_here"] (defScope s__law_way) := ⟨rfl, rfl, rfl, by decide +kernel, rfl, by decide +kernel, by decide +kernel⟩
/-- what the places are while the pair (i, j) is being done -/
def done (k : Int) (c : Nat → Nat → List Int) (i j : Nat) (now : List Int) : Nat → Nat → List Int := fun x y => if x < i ∨ (x = i ∧ y < j) then c x y else if x = i ∧ y = j then now else rangeI k
theorem WayAt.congr {K : PySem.W.Frag} {C : Addr} {G : Hp} {a : Addr} {r l k : Nat} {c c' : Nat → Nat → List Int} (W : WayAt K C G a r l k c) (h : ∀ i j, i < r → j < l → c i j = c' i j) : WayAt K C G a r l k c' :=
  ⟨by rw [← tabF_congr h]; exact W.ob, W.r1, W.r2, W.l1, W.l2, W.k1, W.k2, fun i j hi hj => by rw [← h i j hi hj]; exact W.ok i j hi hj⟩
section
variable {P : Program} {w : World} {K : PySem.W.Frag} {mg : Str → Option Value} {base : Heap} {f C : Addr} {fd : FuncData}
theorem ok_way (B : Bt mg) (cM : Ma P w K mg base 4 "Way" C (spInit K C)) (cL : Clo P w K mg base 7 C (spClosing K C)) (F : Fun K "_law_way" "_law_way" s__law_way f fd) : FnG P w K mg base 8 f fd ["_law_net_here"] (spWay K C) := by
  refine okG F sc__law_way (fun vs H Q E h => ?_) (fun cdv A outer s H vs Q E hr hgd h => ?_)
  · obtain ⟨G, t, e, w, k, c, rfl, _⟩ := h
    rfl
  · obtain ⟨G, t, e, wd, k, c, rfl, sG, hd, e1, e2, w1, w2, k1, k2, hok, q⟩ := h
    have nd := sc__law_way.nd
    refine ⟨_, (pss_cons (ps_set (i := 1) nd rfl (Or.inl rfl) (pe_ma cM hr (by decide) rfl (pa_cons (pe_ix ix_tup (pv 0) pe_int (fun _ _ => rfl)) (pa_cons (pe_ix ix_tup (pv 0) pe_int (fun _ _ => rfl)) (pa_cons (pe_ix ix_tup (pv 0) pe_int (fun _ _ => rfl)) pa_nil)))))
      (pss_cons (ps_for PassesOwn.never rfl (pi_enum (by rfl) B.enumerate (pa_cons (pe_ix ix_tup (pv 0) pe_int (fun _ _ => rfl)) pa_nil)) (pg_tup rfl (pgs_cons (pg_name (i := 2) nd rfl (Or.inl rfl)) (pgs_cons (pg_name (i := 3) nd rfl (Or.inl rfl)) pgs_nil)))
      (pss_one (ps_for PassesOwn.never rfl (pi_enum (by rfl) B.enumerate (pa_cons (pv 3) pa_nil)) (pg_tup rfl (pgs_cons (pg_name (i := 4) nd rfl (Or.inl rfl)) (pgs_cons (pg_name (i := 5) nd rfl (Or.inr rfl)) pgs_nil)))
      (pss_cons (ps_setLc (i := 7) (own := [("_law_spot", 6)]) rfl nd rfl rfl (sw_true rfl rfl rfl (by decide +kernel)) (pi_range1 rfl B.range (pa_cons (pe_ix ix_tup (pv 0) pe_int (fun _ _ => rfl)) pa_nil)) (blkOk_by (N := N__law_way) (sc := defScope s__law_way) (by decide +kernel)) (fun _ _ _ _ _ => (pg_name (i := 6) nd rfl (Or.inl rfl))) (fun _ _ _ _ _ => pts_one (pt_cmpR (show OpR _ (compareOp .NotIn) (rIn K true) from op_notIn_seq) (pv 6) (pv 5) (by rfl))) (fun _ _ _ _ _ => (pv 6)))
      (pss_one (ps_for PassesOwn.never rfl (pi_list (pv 7)) (pg_name (i := 6) nd rfl (Or.inl rfl))
      (pss_one (ps_set (i := 1) nd rfl (Or.inl rfl) (pe_closing cL hr (by decide) (pv 1) (pv 6) (pv 2) (pv 4)))))))))) 
      (pss_one (ps_ret (pv 1))))), ?_⟩
    obtain ⟨rl, xs, hS, hL, hA⟩ := net_vals hd
    have lx : xs.length = e := by rw [DpAll.len hA, List.length_map, tabF_len]
    refine ⟨_, rfl, t, _, _, _, rfl, rfl, Evl.ex_t sG hS, atI_nat (j := 0) rfl, _, rfl, t, _, _, _, rfl, rfl, Evl.ex_t sG hS, atI_nat (j := 1) rfl, _, rfl, t, _, _, _, rfl, rfl, Evl.ex_t sG hS, atI_nat (j := 2) rfl, ?_⟩
    dsimp only [tNil]
    refine mk_way sG e1 e2 w1 w2 k1 k2 fun a1 G1 H1 f1 W1 => ?_
    refine ⟨_, rfl, t, _, _, _, rfl, rfl, Evl.ex_t (f1.g.trans f1.s) hS, atI_nat (j := 3) rfl, rl, xs, rfl, Same.seq (f1.g.trans f1.s) hL, for_it walk_enum (fun i σ H3 => ∃ (G3 : Hp) (a : Addr) (v2 v3 v4 v5 v6 v7 : Option V), σ = [some (.ref t), some (.ref a), v2, v3, v4, v5, v6, v7] ∧ Fut G H G3 H3 ∧ WayAt K C G3 a e wd k (done k c i 0 (rangeI k)))
      ⟨G1, a1, none, none, none, none, none, none, rfl, f1, W1.congr fun x y _ _ => by unfold done; rw [if_neg (by omega)]; split <;> rfl⟩ (fun i σ H3 _ ⟨G3, _, _, _, _, _, _, _, _, f3, _⟩ => Same.seq (f3.g.trans f3.s) hL) ?_ ?_⟩
    · rintro i x σ H3 H4 hi ⟨G3, a, v2, v3, v4, v5, v6, v7, rfl, f3, W3⟩ ⟨T', x1, y1, rfl, hT, rfl, q1, q2⟩
      obtain rfl := Option.some.inj q1
      replace q2 : xs[i]? = some y1 := q2
      have hie : i < e := by omega
      obtain ⟨d, hd1, hd2⟩ := DpAll.at' hA q2
      rw [List.getElem?_map, tabF_at hie] at hd1
      obtain rfl := Option.some.inj hd1
      obtain ⟨xr, ys, rfl, hLr, hAr⟩ := row_vals hd2
      have ly : ys.length = wd := by rw [DpAll.len hAr, List.length_map, List.length_map, List.length_range]
      have f4 := f3.trans (Fut.up f3.s (Same.new (o := .tup [V.int (i : Nat), .ref xr]) hT))
      have hT4 : (upd H3 T' (.tup [V.int (i : Nat), .ref xr])) T' = some (.tup [V.int (i : Nat), .ref xr]) := upd_same
      generalize (upd H3 T' (.tup [V.int (i : Nat), .ref xr])) = H4 at f4 hT4 ⊢
      refine ⟨T', _, rfl, SqT.of hT4, rfl, _, _, rfl, _, _, rfl, rfl, ?_⟩
      refine ⟨_, rfl, xr, ys, rfl, Same.seq (f4.g.trans f4.s) hLr, for_it walk_enum (fun j σ H5 => ∃ (G5 : Hp) (a : Addr) (v4 v5 v6 v7 : Option V), σ = [some (.ref t), some (.ref a), some (.int (i : Nat)), some (.ref xr), v4, v5, v6, v7] ∧ Fut G H G5 H5 ∧ WayAt K C G5 a e wd k (done k c i j (rangeI k)))
        ⟨G3, a, v4, v5, v6, v7, rfl, f4, W3⟩ (fun j σ H5 _ ⟨G5, _, _, _, _, _, _, f5, _⟩ => Same.seq (f5.g.trans f5.s) hLr) ?_ ?_⟩
      · rintro j x σ H5 H6 hj ⟨G5, a, v4, v5, v6, v7, rfl, f5, W5⟩ ⟨T2, x2, y2, rfl, hT2, rfl, p1, p2⟩
        obtain rfl := Option.some.inj p1
        replace p2 : ys[j]? = some y2 := p2
        have hjw : j < wd := by omega
        obtain ⟨d, hd3, hd4⟩ := DpAll.at' hAr p2
        rw [List.getElem?_map, rowF_at hjw] at hd3
        obtain rfl := Option.some.inj hd3
        obtain ⟨xc, rfl⟩ : ∃ xc, y2 = .ref xc := by
          cases hd4 with
          | tup a b => exact ⟨_, rfl⟩
        have hcv := cell_vals hd4
        have hc := hok i j hie hjw
        have f6 := f5.trans (Fut.up f5.s (Same.new (o := .tup [V.int (j : Nat), .ref xc]) hT2))
        have hT6 : (upd H5 T2 (.tup [V.int (j : Nat), .ref xc])) T2 = some (.tup [V.int (j : Nat), .ref xc]) := upd_same
        generalize (upd H5 T2 (.tup [V.int (j : Nat), .ref xc])) = H6 at f6 hT6 ⊢
        refine ⟨T2, _, rfl, SqT.of hT6, rfl, _, _, rfl, _, _, rfl, rfl, ?_⟩
        refine ⟨_, rfl, t, _, _, _, rfl, rfl, Evl.ex_t (f6.g.trans f6.s) hS, atI_nat (j := 2) rfl, (k : Nat), rfl, by omega, by omega, fun D hD => ?_⟩
        rw [show ((k : Nat) : Int).toNat = k by omega]
        refine lc_range (lo := 0) (n := k) (fun m H7 => ∃ acc : List Int, H7 D = some (.lst (acc.map V.int)) ∧ Same H6 H7 ∧ acc.length ≤ m ∧ acc = (((List.range m).map fun i => (0 : Int) + (i : Nat)).filter fun x => !decide (x ∈ c i j))) ⟨[], upd_same, Same.new hD, by simp, rfl⟩ ?_ ?_
        · rintro m H7 hm ⟨acc, hA7, s7, la, ea⟩
          refine ⟨rfl, ?_⟩
          refine ⟨_, rfl, _, rfl, xc, _, rfl, .inr (Evl.ex_t ((f6.g.trans f6.s).trans s7) hcv), rfl, flat_ints _, _, rfl, ?_⟩
          rw [if_pos rfl, inV_ints]
          have es : ((List.range (m + 1)).map fun i => (0 : Int) + (i : Nat)) = ((List.range m).map fun i => (0 : Int) + (i : Nat)) ++ [(0 : Int) + (m : Nat)] := by
            rw [List.range_succ, List.map_append]
            rfl
          by_cases hm2 : (0 : Int) + (m : Nat) ∈ c i j
          · rw [decide_eq_true hm2]
            refine iteF ?_
            refine ⟨acc, hA7, s7, by omega, ?_⟩
            rw [es, List.filter_append, ← ea, List.filter_cons_of_neg (by rw [decide_eq_true hm2]; exact Bool.false_ne_true), List.filter_nil, List.append_nil]
          · rw [decide_eq_false hm2]
            refine iteT ?_
            refine ⟨_, rfl, _, hA7, small1000 (by rw [List.length_map]; omega), acc ++ [(0 : Int) + (m : Nat)], by rw [upd_same, List.map_append] <;> rfl, Fut.mut s7 hD, by rw [List.length_append]; show acc.length + 1 ≤ m + 1; omega, ?_⟩
            rw [es, List.filter_append, ← ea, List.filter_cons_of_pos (by rw [decide_eq_false hm2]; rfl), List.filter_nil]
        · rintro H7 ⟨gone, hA7, s7, la, ea⟩
          have eg : gone = goneOf k (c i j) := by
            rw [ea]
            unfold goneOf rangeI
            rw [show ((k : Nat) : Int).toNat = k by omega]
          have f7 := f6.trans (Fut.up f6.s s7)
          refine ⟨_, rfl, D, rfl, ⟨_, SqL.of hA7⟩, for_list (K := K) (a := D) (xs := gone.map V.int) (fun m σ H8 => ∃ (G8 : Hp) (a : Addr) (v6 : Option V), σ = [some (.ref t), some (.ref a), some (.int (i : Nat)), some (.ref xr), some (.int (j : Nat)), some (.ref xc), v6, some (.ref D)] ∧ Fut G5 H7 G8 H8 ∧ WayAt K C G8 a e wd k (done k c i j (stay k (gone.take m))))
            ⟨G5, a, _, rfl, Fut.refl f7.s, by rw [List.take_zero, stay_nil]; exact W5⟩ (fun m σ H8 _ ⟨_, _, _, _, f8, _⟩ => SqL.of (f8.h _ _ hA7)) ?_ ?_⟩
          · rintro m x σ H8 hx ⟨G8, a, v6, rfl, f8, W8⟩
            obtain ⟨z, hz, rfl⟩ : ∃ z, gone[m]? = some z ∧ x = V.int z := by
              rw [List.getElem?_map] at hx
              cases e : gone[m]? with
              | none =>
                rw [e] at hx
                cases hx
              | some z =>
                rw [e] at hx
                exact ⟨z, rfl, (Option.some.inj hx).symm⟩
            have hzg : z ∈ goneOf k (c i j) := eg ▸ List.mem_of_getElem? hz
            have hzr := range_mem (List.mem_filter.mp hzg).1
            have ht : gone.take (m + 1) = gone.take m ++ [z] := by rw [List.take_add_one, hz] <;> rfl
            have hall : ∀ x ∈ gone.take (m + 1), x ∈ goneOf k (c i j) := fun x hx => eg ▸ List.mem_of_mem_take hx
            obtain ⟨dx, tt, ha8, _⟩ := W8.ob
            have at_ij : done k c i j (stay k (gone.take m)) i j = stay k (gone.take m) := by
              unfold done
              rw [if_neg (by omega), if_pos ⟨rfl, rfl⟩]
            refine ⟨_, rfl, a, dx, _, rfl, f8.s _ _ ha8, wf_no _ _ _ _ (by decide +kernel) (by decide +kernel) (by decide +kernel) (by decide +kernel), _, rfl, _, rfl, _, rfl, _, _, _, rfl, rfl, fun p hp => ?_⟩
            have fn := Fut.new (o := .tup [V.int z]) f8.s hp
            refine ⟨_, a, p, e, wd, k, i, j, _, [z], rfl, fn.s, W8.mono fn.g, Evl.st_of upd_same, by show 1 ≤ 1000; decide, fun x hx => by rw [List.mem_singleton] at hx; omega, hie, hjw, ?_, fun b G9 H9 f9 W9 => ?_⟩
            · rw [at_ij, stay_snoc, ← ht]
              exact stay_ne hc hall
            · refine ⟨G9, b, _, rfl, (f8.trans fn).trans f9, W9.congr fun x y hx hy => ?_⟩
              unfold less put2
              by_cases h : x = i ∧ y = j
              · rw [if_pos h, at_ij, stay_snoc, ← ht, h.1, h.2]
                unfold done
                rw [if_neg (by omega), if_pos ⟨rfl, rfl⟩]
              · rw [if_neg h]
                unfold done
                by_cases h2 : x < i ∨ x = i ∧ y < j
                · rw [if_pos h2, if_pos h2]
                · rw [if_neg h2, if_neg h2, if_neg h, if_neg h]
          · rintro σ H8 ⟨G8, a, v6, rfl, f8, W8⟩
            refine ⟨G8, a, _, _, _, _, rfl, f7.trans f8, W8.congr fun x y hx hy => ?_⟩
            rw [List.length_map, List.take_length, eg, stay_gone hc]
            unfold done
            by_cases h2 : x < i ∨ x = i ∧ y < j
            · rw [if_pos h2, if_pos (by omega)]
            · rw [if_neg h2]
              by_cases h : x = i ∧ y = j
              · rw [if_pos h, if_pos (by omega), h.1, h.2]
              · rw [if_neg h, if_neg (by omega)]
                split <;> rfl
      · rintro σ H5 ⟨G5, a, v4, v5, v6, v7, rfl, f5, W5⟩
        refine ⟨G5, a, _, _, _, _, _, _, rfl, f5, W5.congr fun x y hx hy => ?_⟩
        unfold done
        by_cases h2 : x < i ∨ x = i ∧ y < ys.length
        · rw [if_pos h2, if_pos (by omega)]
        · have h3 : ¬ (x < i + 1 ∨ x = i + 1 ∧ y < 0) := by omega
          rw [if_neg h2, if_neg h3]
          split <;> split <;> rfl
    · rintro σ H3 ⟨G3, a, v2, v3, v4, v5, v6, v7, rfl, f3, W3⟩
      exact ⟨_, rfl, q a G3 H3 f3 (W3.congr fun x y hx hy => by unfold done; rw [if_pos (by omega)])⟩
end
end W2

namespace PySem.W
open PySem PySem.Calls PyProof.Rows
section
variable {prog : Program} {w : World} {A : Around} {E : Value → Shared → Prop} {s : Shared} {K : Frag} {x C L f : Addr} {h₀ : Heap} {m : Str → Option Value} {ox : Obj} {od : Option Obj} {name : Str} {b tb : Value}
theorem r2_ifBound {M : Model} {args : List Value} {id T : String} {Q : Option Value → Shared → Prop} (X : K.In s.heap) (I : InstAt s.heap x ox C od) (hs : findIn K (.ref C) name = some (some (.builtin id))) (S : Slot T name id)
    (h : wpAny M A (call (.builtin id) (.ref x :: args)) (fun v => Q (some v)) E s) : wpAny M A (callSpecialIfBound? (.ref x) name args) Q E s := by
  simp only [callSpecialIfBound?, bindSpecialIfBound?]
  refine wpAny_holding (wpAny_bind (wpAny_bind (wpAny_bind (I.type.here ((looks_findIn X hs).here ?_)))))
  refine wpAny_bind (wpAny_askSetting (wpAny_ite ?_))
  have fin : wpAny M A (call (.builtin id) ([.ref x] ++ args) >>= fun v => pure (some v)) Q E s := wpAny_bind (wpAny_mono h (fun v s' h' => wpAny_pure h') fun _ _ h' => h')
  simp only [S.bind]
  split
  · exact wpAny_bind (wpAny_pure (wpAny_pure fin))
  · exact wpAny_tryCatch (wpAny_bind (wpAny_pure (wpAny_pure fin)))
def R2Bool (Q : Bool → Shared → Prop) (v : Value) (s' : Shared) : Prop := ∃ b, v = .bool b ∧ Q b s'
/-- x != b where the class has an own ==, and object's != -/
theorem r2_ne {Q : Value → Shared → Prop} (hu : A.units + 1 < cLine) (F : Fr h₀ L s.heap m) (X₀ : K.In h₀) (I : InstAt s.heap x ox C od) (hb : Looks (model prog w) s.heap (typeOf b) tb) (hn : notFirst K C tb = true)
    (hne : findIn K (.ref C) "__ne__" = some (some (.builtin "object.__ne__"))) (hi : Looks (model prog w) s.heap (isInstance (.ref x) (.type "object")) true) (hs : findIn K (.ref C) "__eq__" = some (some (.ref f))) (hf : isFn K (.ref f) = true)
    (h : wpAny (model prog w) A.in1 (call (.ref f) [.ref x, b]) (R2Bool fun c => Q (.bool (!c))) E s) : wpAny (model prog w) A (richCompare .NotEq (.ref x) b) Q E s := by
  have X := X₀.keeps F.keep
  have body : wpAny (model prog w) A (call (.builtin "object.__ne__") [.ref x, b]) (fun v s' => (∃ c, v = .bool c) ∧ Q v s') E s := by
    refine wpAny_call (codeAny_call_builtin PySem.F.cmp_object.ne.plain PySem.F.cmpEntry_ne (check_slot PySem.F.cmpKind_ne PySem.F.cmpSplit_ne hi (PySem.F.cmpArgs_ne _ _) ?_))
    unfold Builtin.«object.__ne__»
    refine wpAny_bind (m := slotArgs "__ne__" 1 _) (wpAny_pure ?_)
    refine wpAny_bind (wpAny_cRoomFor (by show A.units + 1 < cLine; omega) ?_)
    refine wpAny_bind (ifBound_K X I hs hf (wpAny_mono h (fun v s' hv => ?_) fun _ _ e => e))
    obtain ⟨c, rfl, q⟩ := hv
    refine wpAny_bind (m := truthy (.bool c)) (wpAny_pure ?_)
    exact wpAny_pure ⟨⟨_, rfl⟩, q⟩
  have one : wpAny (model prog w) A (tryCompare (.ref x) "__ne__" b) (fun r s' => ∃ v, r = some v ∧ Q v s') E s := by
    unfold tryCompare
    refine wpAny_bind (r2_ifBound X I hne PySem.F.cmp_object.ne (wpAny_mono body (fun v s' hv => ?_) fun _ _ e => e))
    obtain ⟨⟨c, rfl⟩, q⟩ := hv
    exact wpAny_pure ⟨_, rfl, q⟩
  unfold richCompare
  simp only [oneThing_ref]
  refine wpAny_holding (wpAny_bind (wpAny_cRoomFor (by omega) ?_))
  refine wpAny_bind (I.type.here (wpAny_bind (hb.here ?_)))
  split
  · rename_i q
    have e : subIn K tb (.ref C) = some false := by
      rcases Bool.or_eq_true_iff.mp hn with e | e
      · rw [beq_iff_eq.mp e] at q; simp at q
      · exact beq_iff_eq.mp e
    refine wpAny_bind ((looks_subIn X e).here ?_)
    simp only [Bool.false_eq_true, if_false]
    refine wpAny_bind (wpAny_mono one (fun r s' z => ?_) fun _ _ e => e)
    obtain ⟨v, rfl, hq⟩ := z
    exact wpAny_pure hq
  · refine wpAny_bind (wpAny_pure ?_)
    simp only [Bool.false_eq_true, if_false]
    refine wpAny_bind (wpAny_mono one (fun r s' z => ?_) fun _ _ e => e)
    obtain ⟨v, rfl, hq⟩ := z
    exact wpAny_pure hq
end
end PySem.W

namespace W2
open PySem PySem.Spec PyProof.Rows L2 Pg Pf Rul Tab
/-- data that is compared and shown: no texts but short ones, no dicts; its depth, its weight -/
structure Fine (n wt : Nat) (d : PyData) : Prop where
  lay : d.canLay0 = true
  sh : d.showable = true
  dp : d.depth ≤ n
  sl : d.leavesShort 13 = true
  wt : d.weight ≤ wt
structure FineAll (n wt : Nat) (ds : List PyData) : Prop where
  lay : PyData.canLayAll0 ds = true
  sh : PyData.showableAll ds = true
  dp : PyData.depthAll ds ≤ n
  sl : PyData.leavesShortAll 13 ds = true
  wt : PyData.weightAll ds ≤ wt
theorem Fine.mono {n n' wt wt' : Nat} {d : PyData} (f : Fine n wt d) (h : n ≤ n') (h2 : wt ≤ wt') : Fine n' wt' d := ⟨f.lay, f.sh, Nat.le_trans f.dp h, f.sl, Nat.le_trans f.wt h2⟩
theorem FineAll.nil {n wt : Nat} : FineAll n wt [] := ⟨rfl, rfl, Nat.zero_le _, rfl, Nat.zero_le _⟩
theorem FineAll.cons {n a b : Nat} {d : PyData} {ds : List PyData} (f : Fine n a d) (g : FineAll n b ds) : FineAll n (a + 1 + b) (d :: ds) := by
  refine ⟨?_, ?_, ?_, ?_, ?_⟩
  · show (d.canLay0 && PyData.canLayAll0 ds) = true
    rw [f.lay, g.lay]
    rfl
  · show (d.showable && PyData.showableAll ds) = true
    rw [f.sh, g.sh]
    rfl
  · show max d.depth (PyData.depthAll ds) ≤ n
    exact Nat.max_le.mpr ⟨f.dp, g.dp⟩
  · show (d.leavesShort 13 && PyData.leavesShortAll 13 ds) = true
    rw [f.sl, g.sl]
    rfl
  · show d.weight + 1 + PyData.weightAll ds ≤ _
    have := f.wt
    have := g.wt
    omega
theorem FineAll.all {n wt : Nat} : ∀ {ds : List PyData}, (∀ d ∈ ds, Fine n wt d) → FineAll n (ds.length * (wt + 1)) ds
  | [], _ => .nil
  | d :: ds, h => by
    have z := FineAll.cons (h d List.mem_cons_self) (FineAll.all (ds := ds) fun x hx => h x (List.mem_cons_of_mem _ hx))
    rw [List.length_cons, Nat.succ_mul, Nat.add_comm]
    exact z
theorem FineAll.monoW {n wt wt' : Nat} {ds : List PyData} (f : FineAll n wt ds) (h : wt ≤ wt') : FineAll n wt' ds := ⟨f.lay, f.sh, f.dp, f.sl, Nat.le_trans f.wt h⟩
theorem FineAll.list {n wt : Nat} {ds : List PyData} (f : FineAll n wt ds) : Fine (n + 1) wt (.list ds) := ⟨f.lay, f.sh, Nat.succ_le_succ f.dp, f.sl, f.wt⟩
theorem FineAll.tuple {n wt : Nat} {ds : List PyData} (f : FineAll n wt ds) : Fine (n + 1) wt (.tuple ds) := ⟨f.lay, f.sh, Nat.succ_le_succ f.dp, f.sl, f.wt⟩
theorem log2_small {i : Int} (h : i.natAbs < 2 ^ 30) : i.natAbs.log2 < 30 := by
  by_cases z : i.natAbs = 0
  · rw [z]
    decide
  · exact (Nat.log2_lt z).mpr h
theorem Fine.int {n : Nat} {i : Int} (h : i.natAbs < 2 ^ 30) : Fine n 31 (.int i) := by
  have hl := log2_small h
  refine ⟨rfl, ?_, Nat.zero_le _, ?_, ?_⟩
  · show decide (i.natAbs.log2 < 1920) = true
    exact decide_eq_true (by omega)
  · show decide ((PyData.shown (.int i)).length ≤ 13) = true
    exact decide_eq_true (PyData.shown_int_le (by omega))
  · show (if i == 0 then 0 else i.natAbs.log2 + 1) ≤ 31
    split <;> omega
theorem Fine.bool {n : Nat} (b : Bool) : Fine n 0 (.bool b) := ⟨rfl, rfl, Nat.zero_le _, rfl, Nat.zero_le _⟩
theorem Fine.none {n : Nat} : Fine n 0 .none := ⟨rfl, rfl, Nat.zero_le _, rfl, Nat.zero_le _⟩
theorem fine_cell {k : Int} {ns : List Int} (h : Cell k ns) (hk : k ≤ 12) : Fine 1 384 (cellD ns) := by
  have h1 := cell_len h hk
  have z : FineAll 0 ((ns.map PyData.int).length * 32) (ns.map PyData.int) := FineAll.all fun d hd => by
    obtain ⟨x, hx, rfl⟩ := List.mem_map.mp hd
    have := h.2.2 x hx
    exact Fine.int (by omega)
  rw [List.length_map] at z
  exact (z.monoW (by omega)).tuple
theorem fine_rowL {k : Int} {r : List (List Int)} (h : ∀ c ∈ r, Cell k c) (hk : k ≤ 12) (hl : r.length ≤ 6) : Fine 2 2310 (rowL r) := by
  have z : FineAll 1 ((r.map cellD).length * 385) (r.map cellD) := FineAll.all fun d hd => by
    obtain ⟨x, hx, rfl⟩ := List.mem_map.mp hd
    exact fine_cell (h x hx) hk
  rw [List.length_map] at z
  exact (z.monoW (by omega)).list
theorem fine_rowT {k : Int} {r : List (List Int)} (h : ∀ c ∈ r, Cell k c) (hk : k ≤ 12) (hl : r.length ≤ 6) : Fine 2 2310 (rowT r) := by
  have z : FineAll 1 ((r.map cellD).length * 385) (r.map cellD) := FineAll.all fun d hd => by
    obtain ⟨x, hx, rfl⟩ := List.mem_map.mp hd
    exact fine_cell (h x hx) hk
  rw [List.length_map] at z
  exact (z.monoW (by omega)).tuple
theorem tabF_mem {r l : Nat} {c : Nat → Nat → List Int} {x : List (List Int)} (h : x ∈ tabF r l c) : ∃ i, i < r ∧ x = (List.range l).map fun j => c i j := by
  unfold tabF at h
  obtain ⟨i, hi, rfl⟩ := List.mem_map.mp h
  exact ⟨i, List.mem_range.mp hi, rfl⟩
theorem fine_tabT {r l : Nat} {k : Int} {c : Nat → Nat → List Int} (h : ∀ i j, i < r → j < l → Cell k (c i j)) (hk : k ≤ 12) (hr : r ≤ 6) (hl : l ≤ 6) : Fine 3 13866 (tabT (tabF r l c)) := by
  have z : FineAll 2 (((tabF r l c).map rowT).length * 2311) ((tabF r l c).map rowT) := FineAll.all fun d hd => by
    obtain ⟨x, hx, rfl⟩ := List.mem_map.mp hd
    obtain ⟨i, hi, rfl⟩ := tabF_mem hx
    refine fine_rowT (k := k) (fun y hy => ?_) hk (by rw [List.length_map, List.length_range]; exact hl)
    obtain ⟨j, hj, rfl⟩ := List.mem_map.mp hy
    exact h i j hi (List.mem_range.mp hj)
  rw [List.length_map, tabF_len] at z
  exact (z.monoW (by omega)).tuple
theorem Fine.shaped {n wt : Nat} {d : PyData} (f : Fine n wt d) (h : n ≤ 64) : SeqAt.shaped d = true := by
  show (d.canLay0 && decide (d.depth ≤ 64)) = true
  rw [f.lay, decide_eq_true (Nat.le_trans f.dp h)]
  rfl
theorem Fine.fits {n wt : Nat} {d : PyData} (f : Fine n wt d) (h : wt ≤ 1000000) : d.shown.length ≤ sizeLine := PyData.shown_fits (B := 13) (by decide) (by decide) f.sl (by have := f.wt; omega)
theorem Fine.nodict {n wt : Nat} {d : PyData} (f : Fine n wt d) : d.hasDict = false := PyData.hasDict_of_canLay d f.lay
/-- repr of such data -/
theorem rd_repr {X : Cx} {H : Hp} {a : Addr} {d : PyData} {n wt : Nat} {Q : VK} (hd : Dp X.K H (.ref a) d) (f : Fine n wt d) (hn : n ≤ 60) (hw : wt ≤ 1000000) (q : Q (.str d.shown) H) :
    ∃ a' d', [V.ref a] = [.ref a'] ∧ Dp X.K H (.ref a') d' ∧ d'.showable = true ∧ d'.hasDict = false ∧ d'.depth ≤ 60 ∧ d'.shown.length ≤ sizeLine ∧ Q (.str d'.shown) H :=
  ⟨a, d, rfl, hd, f.sh, f.nodict, Nat.le_trans f.dp hn, f.fits hw, q⟩
mutual
theorem eqv_rfl : ∀ d : PyData, d.canLay0 = true → PyData.eqv d d = true
  | .none, _ => rfl
  | .bool b, _ => by simp [PyData.eqv]
  | .int i, _ => by simp [PyData.eqv]
  | .str x, _ => by simp [PyData.eqv]
  | .list ds, h => eqvAll_rfl ds h
  | .tuple ds, h => eqvAll_rfl ds h
  | .dict _, h => by cases h
theorem eqvAll_rfl : ∀ ds : List PyData, PyData.canLayAll0 ds = true → PyData.eqvAll ds ds = true
  | [], _ => rfl
  | d :: ds, h => by
    have h' := Bool.and_eq_true_iff.mp (show (d.canLay0 && PyData.canLayAll0 ds) = true from h)
    show (PyData.eqv d d && PyData.eqvAll ds ds) = true
    rw [eqv_rfl d h'.1, eqvAll_rfl ds h'.2]
    rfl
end
end W2

namespace W2
open PySem PySem.Spec PyProof.Rows L2 Pg Pf Rul Tab
/-- what is known of the class for ==, !=, len, isinstance -/
structure We (P : Program) (w : World) (K : PySem.W.Frag) (mg : Str → Option Value) (base : Heap) (ke kl : Nat) (C : Addr) (spE spL : Sp) : Prop where
  cl : Cls K C
  ha : PySem.W.findIn K (.ref C) "__class__" = some (some (.builtin "object.__class__"))
  hn : PySem.W.specialIn K (.builtin "object.__class__") "__get__" = some (some (.builtin "getset_descriptor.__get__"))
  htk : PySem.W.takesIn K (.builtin "object.__class__") = some true
  hm : PySem.W.mroIn K C (.type "object") = some true
  ne : PySem.W.findIn K (.ref C) "__ne__" = some (some (.builtin "object.__ne__"))
  eq : ∃ (f : Addr) (fd : FuncData), PySem.W.findIn K (.ref C) "__eq__" = some (some (.ref f)) ∧ PySem.W.isFn K (.ref f) = true ∧ FnOk P w K mg base CX0 ke f fd ["self", "other"] spE ∧ Binds K fd ["self", "other"] []
  len : ∃ (f : Addr) (fd : FuncData), PySem.W.findIn K (.ref C) "__len__" = some (some (.ref f)) ∧ PySem.W.isFn K (.ref f) = true ∧ FnOk P w K mg base CX0 kl f fd ["self"] spL ∧ Binds K fd ["self"] []
/-- x == y, x != y by the class's own == -/
def rCmpW (K : PySem.W.Frag) (C : Addr) (sp : Sp) (neg : Bool) : R2 := fun x y H Q => ∃ a dx fs t, x = .ref a ∧ H a = some (.ins C dx fs) ∧ TyX K H y t ∧ PySem.W.notFirst K C t = true ∧ sp [x, y] H (fun v H' => ∃ c : Bool, v = .bl c ∧ Q (.bl (if neg = true then !c else c)) H') E0
section
variable {X : Cx} {ke kl j : Nat} {C : Addr} {spE spL : Sp}
theorem op_eqW (c : We X.prog X.w X.K X.mg X.base ke kl C spE spL) (hr : Room j X.A) (hk : ke ≤ j) : OpR X (compareOp .Eq) (rCmpW X.K C spE false) := by
  intro pins s σ H x y v u Q I rx ry h
  obtain ⟨a, dx, fs, t, rfl, ha, ty, hn, q⟩ := h
  cases (show v = Value.ref a from rx)
  obtain ⟨f, fd, hs, hf, F, b⟩ := c.eq
  obtain ⟨mA, O, _⟩ := ins_get I.hok ha
  obtain ⟨od, J, _⟩ := O.look
  obtain ⟨m, hF⟩ := I.fr
  obtain ⟨Pk, Z, p, _⟩ := kit_of I ry ty
  refine PySem.W.cmp_K (op := .Eq) (tb := t) (hr.mono hk).units0 hF I.ok.mod.kin J (Z.ty _ _ I.kIn p) hn hs hf ?_
  have z := run_fn (us := [.ref a, u]) (vs := [.ref a, y]) (Q := fun v H' => ∃ c : Bool, v = .bl c ∧ Q (.bl c) H') F (hr.mono hk) b .nil pass0 I (.cons rfl (.cons ry .nil)) q
  refine wpAny_mono z (fun w s' hz => ?_) fun _ _ x => x
  obtain ⟨z', H', I', rz, c, ec, qz⟩ := hz
  subst ec
  cases (show w = Value.bool c from rz)
  exact ⟨.bl c, H', I', rfl, qz⟩
theorem op_neW (c : We X.prog X.w X.K X.mg X.base ke kl C spE spL) (hr : Room j X.A) (hk : ke + 1 ≤ j) : OpR X (compareOp .NotEq) (rCmpW X.K C spE true) := by
  intro pins s σ H x y v u Q I rx ry h
  obtain ⟨a, dx, fs, t, rfl, ha, ty, hn, q⟩ := h
  cases (show v = Value.ref a from rx)
  obtain ⟨f, fd, hs, hf, F, b⟩ := c.eq
  obtain ⟨mA, O, _⟩ := ins_get I.hok ha
  obtain ⟨od, J, _⟩ := O.look
  obtain ⟨m, hF⟩ := I.fr
  obtain ⟨Pk, Z, p, _⟩ := kit_of I ry ty
  have hr1 : Room (ke + 1) X.A := hr.mono hk
  refine PySem.W.r2_ne (tb := t) (by have := hr1.units; omega) hF I.ok.mod.kin J (Z.ty _ _ I.kIn p) hn c.ne (J.type.andThen (PySem.W.looks_mroIn I.kIn c.hm)) hs hf ?_
  have b2 := b s [.ref a, u] I.kIn rfl
  refine wpAny_call (codeAny_mono (F.run X.A.in1 X.stack s H ⟨[.ref a, u], []⟩ [.ref a, u] [.ref a, y] (fun v H' => ∃ c : Bool, v = .bl c ∧ Q (.bl (!c)) H') E0 hr1.in1 I.env0.in1 b2 (.cons rfl (.cons ry .nil)) q) fun r s' hq => ?_)
  cases r with
  | error e => exact False.elim hq
  | ok fl =>
    cases fl with
    | ret w =>
      obtain ⟨z', H', I', rz, c, ec, qz⟩ := I.after hq
      subst ec
      cases (show w = Value.bool c from rz)
      exact ⟨c, rfl, .bl (!c), H', I', rfl, qz⟩
    | next => exact False.elim hq
    | brk => exact False.elim hq
    | cont => exact False.elim hq
/-- len of an object of the class -/
theorem call_lenW (c : We X.prog X.w X.K X.mg X.base ke kl C spE spL) (hr : Room j X.A) (hk : kl + 1 ≤ j) :
    CallR X (.builtin "len") (fun xs H Q => ∃ a dx fs, xs = [.ref a] ∧ H a = some (.ins C dx fs) ∧ spL [.ref a] H (fun v H' => ∃ n : Int, v = .int n ∧ 0 ≤ n ∧ n < 2 ^ 63 ∧ Q (.int n) H') E0) := by
  intro pins s σ H xs us Q I r h
  obtain ⟨a, dx, fs, rfl, ha, q⟩ := h
  obtain ⟨u, rfl, ru⟩ := vals1 r
  cases (show u = Value.ref a from ru)
  obtain ⟨f, fd, hs, hf, F, b⟩ := c.len
  obtain ⟨mA, O, _⟩ := ins_get I.hok ha
  obtain ⟨od, J, _⟩ := O.look
  obtain ⟨m, hF⟩ := I.fr
  have hr1 : Room (kl + 1) X.A := hr.mono hk
  have b2 := b s [.ref a] I.kIn rfl
  refine PySem.W.len_K hF I.ok.mod.kin J hs hf ?_
  refine wpAny_call (codeAny_mono (F.run X.A.in1 X.stack s H ⟨[.ref a], []⟩ [.ref a] [.ref a] (fun v H' => ∃ n : Int, v = .int n ∧ 0 ≤ n ∧ n < 2 ^ 63 ∧ Q (.int n) H') E0 hr1.in1 I.env0.in1 b2 (.cons rfl .nil) q) fun r s' hq => ?_)
  cases r with
  | error e => exact False.elim hq
  | ok fl =>
    cases fl with
    | ret w =>
      obtain ⟨z', H', I', rz, n, ec, n0, n1, qz⟩ := I.after hq
      subst ec
      obtain ⟨t, et⟩ := (show ∃ t, w = Value.int n t from rz)
      cases et
      exact ⟨⟨n0, n1⟩, .int n, H', I'.tok _, ⟨_, rfl⟩, qz⟩
    | next => exact False.elim hq
    | brk => exact False.elim hq
    | cont => exact False.elim hq
end
end W2

namespace W2
open PySem PySem.Spec PyProof.Rows L2 Pg Pf Rul Tab
theorem eqv_ints : ∀ ns ms : List Int, PyData.eqvAll (ns.map PyData.int) (ms.map PyData.int) = decide (ns = ms)
  | [], [] => rfl
  | [], m :: ms => rfl
  | n :: ns, [] => rfl
  | n :: ns, m :: ms => by
    show ((n == m) && PyData.eqvAll (ns.map PyData.int) (ms.map PyData.int)) = _
    rw [eqv_ints ns ms, Bool.eq_iff_iff]
    simp
theorem eqv_map {α : Type} [DecidableEq α] (f : α → PyData) (h : ∀ x y, PyData.eqv (f x) (f y) = decide (x = y)) : ∀ xs ys : List α, PyData.eqvAll (xs.map f) (ys.map f) = decide (xs = ys)
  | [], [] => rfl
  | [], y :: ys => rfl
  | x :: xs, [] => rfl
  | x :: xs, y :: ys => by
    show (PyData.eqv (f x) (f y) && PyData.eqvAll (xs.map f) (ys.map f)) = _
    rw [h, eqv_map f h xs ys, Bool.eq_iff_iff]
    simp
theorem eqv_cell (a b : List Int) : PyData.eqv (cellD a) (cellD b) = decide (a = b) := eqv_ints a b
theorem eqv_rowT (a b : List (List Int)) : PyData.eqv (rowT a) (rowT b) = decide (a = b) := eqv_map cellD eqv_cell a b
theorem eqv_tabT (a b : List (List (List Int))) : PyData.eqv (tabT a) (tabT b) = decide (a = b) := eqv_map rowT eqv_rowT a b
abbrev s_eq : Stmt := inClass (top 11) 10
abbrev N_eq : List Str := ["self", "other"]
theorem sc_eq : FnScope N_eq ["self", "other"] (defScope s_eq) := ⟨rfl, rfl, rfl, by decide +kernel, rfl, by decide +kernel, by decide +kernel⟩
abbrev s_len : Stmt := inClass (top 11) 9
abbrev N_len : List Str := ["self"]
theorem sc_len : FnScope N_len ["self"] (defScope s_len) := ⟨rfl, rfl, rfl, by decide +kernel, rfl, by decide +kernel, by decide +kernel⟩
/-- the own == -/
def spEqW (K : PySem.W.Frag) (C : Addr) : Sp := fun vs H Q _ => ∃ (G : Hp) (a : Addr) (y : V) (r l k : Nat) (c : Nat → Nat → List Int), vs = [.ref a, y] ∧ Same G H ∧ WayAt K C G a r l k c ∧
  ((∃ (b : Addr) (r' l' k' : Nat) (c' : Nat → Nat → List Int), y = .ref b ∧ WayAt K C G b r' l' k' c' ∧ Q (.bl (decide (k = k') && decide (tabF r l c = tabF r' l' c'))) H) ∨
   (∃ t, TyX K H y t ∧ PySem.W.kitOne K t (.ref C) = some false ∧ Q (.bl false) H))
def spLenW (K : PySem.W.Frag) (C : Addr) : Sp := fun vs H Q _ => ∃ (G : Hp) (a : Addr) (r l k : Nat) (c : Nat → Nat → List Int), vs = [.ref a] ∧ Same G H ∧ WayAt K C G a r l k c ∧ ∀ H', Same H H' → Q (.int ((r * l : Nat) : Int)) H'
section
variable {P : Program} {w : World} {K : PySem.W.Frag} {mg : Str → Option Value} {base : Heap} {f C : Addr} {fd : FuncData}
theorem kit_self : PySem.W.kitOne K (.ref C) (.ref C) = some true := by
  unfold PySem.W.kitOne
  rw [if_pos (by simp)]
theorem ok_eqW (Bw' : Bw mg) (T : Wt K mg C) (hA : PySem.W.findIn K (.ref C) "__class__" = some (some (.builtin "object.__class__"))) (hN : PySem.W.specialIn K (.builtin "object.__class__") "__get__" = some (some (.builtin "getset_descriptor.__get__")))
    (hT : PySem.W.takesIn K (.builtin "object.__class__") = some true) (hM : PySem.W.mroIn K C (.type "object") = some true) (F : Fun K "__eq__" "Way.__eq__" s_eq f fd) : FnOk P w K mg base CX0 2 f fd ["self", "other"] (spEqW K C) := by
  refine F.ok sc_eq (fun vs H Q E h => ?_) (fun cdv A outer s H vs Q E hr h => ?_)
  · obtain ⟨G, a, y, r, l, k, c, rfl, _⟩ := h
    rfl
  · obtain ⟨G, a, y, r, l, k, c, rfl, sG, W, q⟩ := h
    refine ⟨_, (pss_one (ps_ret (pe_and (pe_callB call_isi (by rfl) Bw'.isinstance (by decide +kernel) (pa_cons (pv 1) (pa_cons (pe_glob (v := .ref C) (by rfl) T.mgC rfl) pa_nil))) (pe_and (pe_cmpR op_eq (pe_fld (pv 0) rfl) (pe_fld (pv 1) rfl) (nomark _)) (pe_one (pe_cmpR (op_eqD hr.units) (pe_fld (pv 0) rfl) (pe_fld (pv 1) rfl) (nomark _))))))), ?_⟩
    obtain ⟨dx, t0, ha, hd⟩ := W.ob
    rcases q with ⟨b, r', l', k', c', rfl, W', q⟩ | ⟨t, ty, ho, q⟩
    · obtain ⟨dx', t0', hb, hd'⟩ := W'.ob
      refine ⟨_, rfl, _, .ref C, .ref C, .ref C, true, rfl, .own C, .base (.ins (sG _ _ hb) T.cl hA hN hT hM), kit_self, _, rfl, ?_⟩
      refine iteT ?_
      refine ⟨_, rfl, a, C, dx, _, _, rfl, sG _ _ ha, T.cl, T.nP, wf_k _ _ _ _, _, rfl, b, C, dx', _, _, rfl, sG _ _ hb, T.cl, T.nP, wf_k _ _ _ _, rfl, _, rfl, ?_⟩
      rw [dec_int]
      by_cases e : k = k'
      · rw [decide_eq_true e] at q ⊢
        refine iteT ?_
        have f1 := fine_tabT W.ok (by have := W.k2; omega) W.r2 W.l2
        have f2 := fine_tabT W'.ok (by have := W'.k2; omega) W'.r2 W'.l2
        refine ⟨_, rfl, a, C, dx, _, _, rfl, sG _ _ ha, T.cl, T.nT, wf_t _ _ _ _, _, rfl, b, C, dx', _, _, rfl, sG _ _ hb, T.cl, T.nT, wf_t _ _ _ _, _, _, Dp.mono sG _ _ hd, Dp.mono sG _ _ hd', f1.shaped (by decide), f2.shaped (by decide), ?_⟩
        rw [eqv_tabT]
        rw [Bool.true_and] at q
        exact q
      · rw [decide_eq_false e] at q ⊢
        refine iteF ?_
        exact q
    · refine ⟨_, rfl, _, .ref C, t, .ref C, false, rfl, .own C, ty, ho, _, rfl, ?_⟩
      refine iteF ?_
      exact q
theorem ok_lenW (B : Bt mg) (cP : CalO P w K mg base 4 "pairs_of" (spPairs K C)) (F : Fun K "__len__" "Way.__len__" s_len f fd) : FnOk P w K mg base CX0 5 f fd ["self"] (spLenW K C) := by
  refine F.ok sc_len (fun vs H Q E h => ?_) (fun cdv A outer s H vs Q E hr h => ?_)
  · obtain ⟨G, a, r, l, k, c, rfl, _⟩ := h
    rfl
  · obtain ⟨G, a, r, l, k, c, rfl, sG, W, q⟩ := h
    refine ⟨_, (pss_one (ps_ret (pe_callB call_len_seq (by rfl) B.len PySem.boot_len (pa_cons (pe_cO cP hr (by decide) rfl (pa_cons (pv 0) pa_nil)) pa_nil)))), ?_⟩
    refine ⟨_, rfl, G, a, r, l, k, c, rfl, sG, W, fun p G' H' f' d' => ?_⟩
    obtain ⟨vp, hL, hP⟩ : ∃ vp, SqL K G' p vp ∧ DpAll K G' vp ((pairsL r l).map pairD) := by
      cases d' with
      | lst a b => exact ⟨_, a, b⟩
    refine ⟨p, vp, rfl, .inl (Same.seq f'.s hL), ?_⟩
    rw [DpAll.len hP, List.length_map, pairs_len]
    exact q H' f'.h
/-- allowed, called with both names, left first -/
structure Alk (P : Program) (w : World) (K : PySem.W.Frag) (mg : Str → Option Value) (base : Heap) (k : Nat) (C : Addr) (sp : Sp) : Prop where
  ex : ∃ (f : Addr) (fd : FuncData), Cls K C ∧ Meth K C "allowed" f ∧ FnOk P w K mg base CX0 k f fd ["self", "right", "left"] sp ∧ ∀ (s : Shared) (u w1 w2 : Value), BindsTo s fd ⟨[u], [("left", w1), ("right", w2)]⟩ [("self", u), ("right", w2), ("left", w1)]
theorem alk_of {sp : Sp} (cl : Cls K C) (me : Meth K C "allowed" f) (F : Fun K "allowed" "Way.allowed" s_allowed f fd) (O : FnOk P w K mg base CX0 4 f fd ["self", "right", "left"] sp) : Alk P w K mg base 4 C sp := by
  refine ⟨f, fd, cl, me, O, fun s u w1 w2 => ?_⟩
  obtain ⟨oc, od, kV, doc, pm, an, cdv, ct, osl, rfl, lk, hcd⟩ := F.ex
  exact .of_eq rfl
end
def tAlk (C : Addr) (sp : Sp) (ta t1 t2 : TE) : TE := fun σ H Q => ta σ H fun x H1 => ∃ a dx fs, x = .ref a ∧ H1 a = some (.ins C dx fs) ∧ fs.lookup ("allowed" : Str) = none ∧
  tCons t1 (tCons t2 tNil) σ H1 fun zs H3 => ∃ y1 y2, zs = [y1, y2] ∧ sp [.ref a, y2, y1] H3 Q E0
section
variable {X : Cx} {k j : Nat} {C : Addr} {sp : Sp} {pos apos q2 q3 : Pos} {o e2 e3 : Expr} {ta t2 t3 : TE}
theorem pe_allowedK {pl : Sem Bool} (c : Alk X.prog X.w X.K X.mg X.base k C sp) (hr : Room j X.A) (hk : k ≤ j) (he : PE X o ta) (h2 : PE X e2 t2) (h3 : PE X e3 t3)
    (hpl : ((backTo pos (starEach [] X.env)).any (·.1) || (backToKw pos (keywordEach [⟨some "left", e2, q2⟩, ⟨some "right", e3, q3⟩] X.env)).any (·.1.isNone)) = false := by rfl)
    (hall : (backToKw pos (keywordEach [⟨some "left", e2, q2⟩, ⟨some "right", e3, q3⟩] X.env)).all (·.1.isSome) = true := by rfl)
    (ht : eval (.Call (.Attribute o "allowed" apos) [] [⟨some "left", e2, q2⟩, ⟨some "right", e3, q3⟩] pos) X.env = (do
      let ov ← eval o X.env
      standAt apos.atName
      let (f, first) ← holding [ov] (getMethod ov "allowed" pl)
      callWith pos f first (backTo pos (starEach [] X.env)) (backToKw pos (keywordEach [⟨some "left", e2, q2⟩, ⟨some "right", e3, q3⟩] X.env))) := by rfl) :
    PE X (.Call (.Attribute o "allowed" apos) [] [⟨some "left", e2, q2⟩, ⟨some "right", e3, q3⟩] pos) (tAlk C sp ta t2 t3) := by
  obtain ⟨f, fd, cl, me, F, hb⟩ := c.ex
  refine ⟨fun pins s σ H Q I h => ?_⟩
  refine PySem.W.methodCall_KW (pl := pl) (thn (he.run pins s σ H _ I h) fun u s1 ⟨x, H1, I1, rx, a, dx, fs, ex, ea, l, q⟩ => ?_) ht
  subst ex
  obtain rfl : u = Value.ref a := rx
  refine getmeth_ok I1 ea cl me l ?_
  refine PySem.W.callWith_KW0 (first := [.ref a]) (h₀ := X.base) I1.ok.mod.kin me.kp hall ?_ hpl
  refine thn ((pk_cons h2 (pk_cons h3 pk_nil)).run pos pins s1 σ H1 _ I1 q) fun ws s3 ⟨zs, H3, I3, rz, y1, y2, ez, q3⟩ => ⟨I3.kIn, ?_⟩
  subst ez
  obtain ⟨w1, w2, rfl, r1, r2⟩ := vals2 rz
  show wpAny (model X.prog X.w) X.A (call (.ref f) [.ref a] [("left", w1), ("right", w2)]) (EP X pins σ Q) X.xe s3
  refine wpAny_call (codeAny_mono (F.run X.A X.stack s3 H3 ⟨[.ref a], [("left", w1), ("right", w2)]⟩ [.ref a, w2, w1] [.ref a, y2, y1] Q E0 (hr.mono hk) I3.env0 (hb s3 _ _ _) (.cons rfl (.cons r2 (.cons r1 .nil))) q3) fun r s' hq => ?_)
  cases r with
  | error e => exact False.elim hq
  | ok fl =>
    cases fl with
    | ret u => exact I3.after hq
    | next => exact False.elim hq
    | brk => exact False.elim hq
    | cont => exact False.elim hq
end
end W2

namespace W2
open PySem PySem.Spec PyProof.Rows L2 Pg Pf Rul Tab
/-- a list at L that grows: what it holds is known for good, the list itself is not -/
structure Acc (K : PySem.W.Frag) (G H G3 H3 : Hp) (L : Addr) (ds : List PyData) : Prop where
  ls : ∃ vs, H3 L = some (.lst vs) ∧ DpAll K G3 vs ds
  g : Same G G3
  s : Same G3 H3
  h : Same H H3
  n : ∀ p, G3 p ≠ none → G p ≠ none ∨ H p = none
  gl : G3 L = none
  hl : H L = none
theorem Acc.start {K : PySem.W.Frag} {G H : Hp} {L : Addr} (s : Same G H) (hL : H L = none) : Acc K G H G (upd H L (.lst [])) L [] :=
  ⟨⟨[], upd_same, .nil⟩, Same.refl _, Fut.mut s (s.free hL), Same.new hL, fun _ e => .inl e, s.free hL, hL⟩
theorem Acc.fut {K : PySem.W.Frag} {G H G3 H3 G4 H4 : Hp} {L : Addr} {ds : List PyData} (a : Acc K G H G3 H3 L ds) (f : Fut G3 H3 G4 H4) : Acc K G H G4 H4 L ds := by
  obtain ⟨vs, h1, h2⟩ := a.ls
  refine ⟨⟨vs, f.h _ _ h1, DpAll.mono f.g _ _ h2⟩, a.g.trans f.g, f.s, a.h.trans f.h, fun p e => (f.n p e).elim (a.n p) fun z => .inr (a.h.free z), ?_, a.hl⟩
  cases e : G4 L with
  | none => rfl
  | some o =>
    rcases f.n L (by rw [e]; simp) with z | z
    · exact absurd a.gl z
    · rw [h1] at z
      cases z
theorem Acc.snoc {K : PySem.W.Frag} {G H G3 H3 : Hp} {L : Addr} {ds : List PyData} {d : PyData} {v : V} (a : Acc K G H G3 H3 L ds) (hd : Dp K G3 v d) (hl : ds.length ≤ 999) :
    ∃ acc, H3 L = some (.lst acc) ∧ acc.length < sizeLine ∧ Acc K G H G3 (upd H3 L (.lst (acc ++ [v]))) L (ds ++ [d]) := by
  obtain ⟨vs, h1, h2⟩ := a.ls
  exact ⟨vs, h1, small1000 (by rw [DpAll.len h2]; omega), ⟨vs ++ [v], upd_same, DpAll.snoc h2 hd⟩, a.g, Fut.mut a.s a.gl, Fut.mut a.h a.hl, a.n, a.gl, a.hl⟩
theorem Acc.freeze {K : PySem.W.Frag} {G H G3 H3 : Hp} {L : Addr} {ds : List PyData} (a : Acc K G H G3 H3 L ds) : ∃ G4, Fut G H G4 H3 ∧ Same G3 G4 ∧ Dp K G4 (.ref L) (.list ds) := by
  obtain ⟨vs, h1, h2⟩ := a.ls
  exact ⟨upd G3 L (.lst vs), fut_add a.g a.h a.s a.n a.hl a.gl h1, Same.new a.gl, .lst (SqL.of upd_same) (DpAll.mono (Same.new a.gl) _ _ h2)⟩
theorem dp_list {K : PySem.W.Frag} {G : Hp} {p : Addr} {ds : List PyData} (h : Dp K G (.ref p) (.list ds)) : ∃ vs, SqL K G p vs ∧ DpAll K G vs ds := by
  cases h with
  | lst a b => exact ⟨_, a, b⟩
theorem dp_tup {K : PySem.W.Frag} {G : Hp} {p : Addr} {ds : List PyData} (h : Dp K G (.ref p) (.tuple ds)) : ∃ vs, SqT K G p vs ∧ DpAll K G vs ds := by
  cases h with
  | tup a b => exact ⟨_, a, b⟩
def spPairsN (K : PySem.W.Frag) : Sp := fun vs H Q _ => ∃ (G : Hp) (t : Addr) (e w k : Nat) (c : Nat → Nat → List Int), vs = [.ref t] ∧ Same G H ∧ Dp K G (.ref t) (netF e w k c) ∧ e ≤ 6 ∧ w ≤ 6 ∧
  ∀ (p : Addr) (G' H' : Hp), Fut G H G' H' → Dp K G' (.ref p) (.list ((pairsL e w).map pairD)) → Q (.ref p) H'
abbrev s__law_pairs : Stmt := top 24
abbrev N__law_pairs : List Str := ["_law_net_here", "_law_found", "_law_n", "_law_k"]
theorem sc__law_pairs : FnScope N__law_pairs ["_law_net_here"] (defScope s__law_pairs) := ⟨rfl, rfl, rfl, by decide +kernel, rfl, by decide +kernel, by decide +kernel⟩
abbrev s__law_read : Stmt := top 25
abbrev N__law_read : List Str := ["_law_road"]
theorem sc__law_read : FnScope N__law_read ["_law_road"] (defScope s__law_read) := ⟨rfl, rfl, rfl, by decide +kernel, rfl, by decide +kernel, by decide +kernel⟩
abbrev s__law_shown : Stmt := top 26
abbrev N__law_shown : List Str := ["_law_net_here", "_law_rows", "_law_row"]
theorem sc__law_shown : FnScope N__law_shown ["_law_net_here"] (defScope s__law_shown) := ⟨rfl, rfl, rfl, by decide +kernel, rfl, by decide +kernel, by decide +kernel⟩
/-- what is read of a way -/
def readD (r l k : Nat) (c : Nat → Nat → List Int) : PyData := .list [.int (r : Nat), .int (l : Nat), .int (k : Nat), tabT (tabF r l c), .int ((r * l : Nat) : Int), .int 6, .int 12]
def spRead (K : PySem.W.Frag) (C : Addr) : Sp := fun vs H Q _ => ∃ (G : Hp) (a : Addr) (r l k : Nat) (c : Nat → Nat → List Int), vs = [.ref a] ∧ Same G H ∧ WayAt K C G a r l k c ∧
  ∀ (p : Addr) (G' H' : Hp), Fut G H G' H' → Dp K G' (.ref p) (readD r l k c) → Q (.ref p) H'
def spShown (K : PySem.W.Frag) : Sp := fun vs H Q _ => ∃ (G : Hp) (t : Addr) (e w k : Nat) (c : Nat → Nat → List Int), vs = [.ref t] ∧ Same G H ∧ Dp K G (.ref t) (netF e w k c) ∧ e ≤ 6 ∧ w ≤ 6 ∧
  ∀ (p : Addr) (G' H' : Hp), Fut G H G' H' → Dp K G' (.ref p) (readD e w k c) → Q (.ref p) H'
/-- the class's constants, read on an object -/
structure Cn (K : PySem.W.Frag) (C : Addr) : Prop where
  w : ∃ u, Con K C "MAX_WALKERS" (.int 6) u
  p : ∃ u, Con K C "MAX_PLACES" (.int 12) u
section
variable {P : Program} {w : World} {K : PySem.W.Frag} {mg : Str → Option Value} {base : Heap} {f C : Addr} {fd : FuncData}
theorem ok_pairsN (B : Bt mg) (F : Fun K "_law_pairs" "_law_pairs" s__law_pairs f fd) : FnG P w K mg base 2 f fd ["_law_net_here"] (spPairsN K) := by
  refine okG F sc__law_pairs (fun vs H Q E h => ?_) (fun cdv A outer s H vs Q E hr hgd h => ?_)
  · obtain ⟨G, t, e, w, k, c, rfl, _⟩ := h
    rfl
  · obtain ⟨G, t, e, wd, k, c, rfl, sG, hd, he, hw, q⟩ := h
    have nd := sc__law_pairs.nd
    refine ⟨_, (pss_cons (ps_set (i := 1) nd rfl (Or.inl rfl) (pe_lst pa_nil))
      (pss_cons (ps_for PassesOwn.never rfl (pi_range1 rfl B.range (pa_cons (pe_ix ix_tup (pv 0) pe_int (fun _ _ => rfl)) pa_nil)) (pg_name (i := 2) nd rfl (Or.inr rfl))
      (pss_one (ps_set (i := 1) nd rfl (Or.inl rfl) (pe_op op_cat (pv 1) (pe_lc (own := [("_law_k", 3)]) rfl nd (pi_range1 rfl B.range (pa_cons (pe_ix ix_tup (pv 0) pe_int (fun _ _ => rfl)) pa_nil)) (blkOk_by (N := N__law_pairs) (sc := defScope s__law_pairs) (by decide +kernel)) (fun _ _ _ _ _ => (pg_name (i := 3) nd rfl (Or.inl rfl))) (fun _ _ _ _ _ => pts_nil) (fun _ _ _ _ _ => (pe_tup (pa_cons (pv 2) (pa_cons (pv 3) pa_nil)))))))))
      (pss_one (ps_ret (pv 1))))), ?_⟩
    obtain ⟨rl, xs, hS, hL, hA⟩ := net_vals hd
    refine ⟨(by show 0 ≤ sizeLine; decide), fun L hL0 => ?_⟩
    have A0 := Acc.start (K := K) sG hL0
    refine ⟨_, rfl, t, _, _, _, rfl, rfl, Evl.ex_t (sG.trans A0.h) hS, atI_nat (j := 0) rfl, (e : Nat), rfl, by omega, by omega, ?_⟩
    rw [show ((e : Nat) : Int).toNat = e by omega]
    refine for_range (lo := 0) (n := e) (fun i σ H3 => ∃ (G3 : Hp) (L : Addr) (v2 v3 : Option V), σ = [some (.ref t), some (.ref L), v2, v3] ∧ Acc K G H G3 H3 L ((pairsL i wd).map pairD)) ⟨G, L, none, none, rfl, A0⟩ ?_ ?_
    · rintro i σ H3 hi ⟨G3, L, v2, v3, rfl, A3⟩
      refine ⟨_, rfl, _, rfl, t, _, _, _, rfl, rfl, Evl.ex_t (sG.trans A3.h) hS, atI_nat (j := 1) rfl, (wd : Nat), rfl, by omega, by omega, fun D hD => ?_⟩
      rw [show ((wd : Nat) : Int).toNat = wd by omega]
      have A4 := Acc.start (K := K) A3.s hD
      refine lc_range (lo := 0) (n := wd) (fun j H5 => ∃ G5, Acc K G3 H3 G5 H5 D (((List.range j).map fun j => (i, j)).map pairD)) ⟨G3, A4⟩ ?_ ?_
      · rintro j H5 hj ⟨G5, A5⟩
        refine ⟨rfl, ?_⟩
        refine ⟨_, rfl, _, rfl, (by show 2 ≤ sizeLine; decide), fun p hp => ?_⟩
        have A6 := A5.fut (Fut.new (o := .tup [.int (0 + (i : Nat)), .int (0 + (j : Nat))]) A5.s hp)
        have dp : Dp K (upd G5 p (.tup [.int (0 + (i : Nat)), .int (0 + (j : Nat))])) (.ref p) (pairD (i, j)) := .tup (Evl.st_of upd_same) (.cons (dp0 _) (.cons (dp0 _) .nil))
        obtain ⟨acc, h1, h2, h3⟩ := A6.snoc dp (by rw [List.length_map, List.length_map, List.length_range]; omega)
        refine ⟨acc, h1, h2, upd G5 p (.tup [.int (0 + (i : Nat)), .int (0 + (j : Nat))]), ?_⟩
        have e : ((List.range (j + 1)).map fun j => (i, j)).map pairD = ((List.range j).map fun j => (i, j)).map pairD ++ [pairD (i, j)] := by simp [List.range_succ]
        rw [e]
        exact h3
      · rintro H5 ⟨G5, A5⟩
        obtain ⟨vs, h1, h2⟩ := A3.ls
        obtain ⟨ws, h3, h4⟩ := A5.ls
        have l1 : vs.length ≤ 36 := by
          rw [DpAll.len h2, List.length_map, pairs_len]
          have := Nat.mul_le_mul (show i ≤ 6 by omega) hw
          omega
        have l2 : ws.length ≤ 6 := by
          rw [DpAll.len h4, List.length_map, List.length_map, List.length_range]
          exact hw
        refine ⟨L, D, vs, ws, rfl, rfl, A5.h _ _ h1, h3, Nat.le_of_lt (small1000 (by omega)), fun p hp => ?_⟩
        have hp0 : H p = none := (A3.h.trans A5.h).free hp
        have gp : G5 p = none := A5.s.free hp
        refine ⟨G5, p, _, _, rfl, ⟨_, upd_same, ?_⟩, A3.g.trans A5.g, Fut.mut A5.s gp, Fut.mut (A3.h.trans A5.h) hp0, fun x e => (A5.n x e).elim (A3.n x) fun z => .inr (A3.h.free z), gp, hp0⟩
        rw [pairs_step, List.map_append]
        exact DpAll.app (DpAll.mono A5.g _ _ h2) h4
    · rintro σ H3 ⟨G3, L, v2, v3, rfl, A3⟩
      obtain ⟨G4, f4, _, d4⟩ := A3.freeze
      exact ⟨_, rfl, q L G4 H3 f4 d4⟩
theorem ok_read (cR : Pr P w K mg base C "rights" "_rights") (cL : Pr P w K mg base C "lefts" "_lefts") (cP : Pr P w K mg base C "places" "_places") (cT : Pr P w K mg base C "table" "_table") (cn : Cn K C) (T : Wt K mg C) (B : Bt mg) (cE : We P w K mg base 2 5 C (spEqW K C) (spLenW K C))
    (F : Fun K "_law_read" "_law_read" s__law_read f fd) : FnG P w K mg base 7 f fd ["_law_road"] (spRead K C) := by
  refine okG F sc__law_read (fun vs H Q E h => ?_) (fun cdv A outer s H vs Q E hr hgd h => ?_)
  · obtain ⟨G, a, r, l, k, c, rfl, _⟩ := h
    rfl
  · obtain ⟨G, a, r, l, k, c, rfl, sG, W, q⟩ := h
    refine ⟨_, (pss_one (ps_ret (pe_lst (pa_cons (pe_pr cR hr (by decide) (pv 0)) (pa_cons (pe_pr cL hr (by decide) (pv 0)) (pa_cons (pe_pr cP hr (by decide) (pv 0)) (pa_cons (pe_pr cT hr (by decide) (pv 0)) (pa_cons (pe_callB (call_lenW cE hr (by decide)) (by rfl) B.len PySem.boot_len (pa_cons (pv 0) pa_nil)) (pa_cons (pe_con (pv 0) rfl) (pa_cons (pe_con (pv 0) rfl) pa_nil)))))))))), ?_⟩
    obtain ⟨dx, t, ha, hd⟩ := W.ob
    have ha' := sG _ _ ha
    obtain ⟨u1, c1⟩ := cn.w
    obtain ⟨u2, c2⟩ := cn.p
    have r2 := W.r2
    have l2 := W.l2
    have hrl := Nat.mul_le_mul r2 l2
    refine ⟨_, rfl, rd_pr ha' (wf_r _ _ _ _) ⟨_, rfl, rd_pr ha' (wf_l _ _ _ _) ⟨_, rfl, rd_pr ha' (wf_k _ _ _ _) ⟨_, rfl, rd_pr ha' (wf_t _ _ _ _) ⟨_, rfl, a, dx, _, rfl, ha', G, a, r, l, k, c, rfl, sG, W, fun H' s' => ⟨_, rfl, by omega, by omega, ?_⟩⟩⟩⟩⟩⟩
    refine ⟨_, rfl, a, C, dx, _, _, _, rfl, s' _ _ ha', T.cl, c1, wf_no _ _ _ _ (by decide +kernel) (by decide +kernel) (by decide +kernel) (by decide +kernel), ?_⟩
    refine ⟨_, rfl, a, C, dx, _, _, _, rfl, s' _ _ ha', T.cl, c2, wf_no _ _ _ _ (by decide +kernel) (by decide +kernel) (by decide +kernel) (by decide +kernel), ?_⟩
    refine ⟨(by show 7 ≤ sizeLine; decide), fun p hp => ?_⟩
    have fn := (Fut.up sG s').trans (Fut.new (o := .lst [.int (r : Nat), .int (l : Nat), .int (k : Nat), .ref t, .int ((r * l : Nat) : Int), .int 6, .int 12]) (sG.trans s') hp)
    exact q p _ _ fn (.lst (SqL.of upd_same) (.cons (.int _) (.cons (.int _) (.cons (.int _) (.cons (Dp.mono fn.g _ _ hd) (.cons (.int _) (.cons (.int _) (.cons (.int _) .nil))))))))
theorem ok_shown (B : Bt mg) (F : Fun K "_law_shown" "_law_shown" s__law_shown f fd) : FnG P w K mg base 2 f fd ["_law_net_here"] (spShown K) := by
  refine okG F sc__law_shown (fun vs H Q E h => ?_) (fun cdv A outer s H vs Q E hr hgd h => ?_)
  · obtain ⟨G, t, e, w, k, c, rfl, _⟩ := h
    rfl
  · obtain ⟨G, t, e, wd, k, c, rfl, sG, hd, he, hw, q⟩ := h
    have nd := sc__law_shown.nd
    refine ⟨_, (pss_cons (ps_set (i := 1) nd rfl (Or.inl rfl) (pe_callTy call_tuple_of (by rfl) B.tuple (by decide +kernel) (pa_cons (pe_lc (own := [("_law_row", 2)]) rfl nd (pi_list (pe_ix ix_tup (pv 0) pe_int (fun _ _ => rfl))) (blkOk_by (N := N__law_shown) (sc := defScope s__law_shown) (by decide +kernel)) (fun _ _ _ _ _ => (pg_name (i := 2) nd rfl (Or.inl rfl))) (fun _ _ _ _ _ => pts_nil) (fun _ _ _ _ _ => (pe_callTy (show CallR _ (.type "tuple") (fun xs H Q => ∃ p ys, xs = [.ref p] ∧ ((SqL K H p ys ∧ ∀ l, H l = none → Q (.ref l) (upd H l (.tup ys))) ∨ (SqT K H p ys ∧ Q (.ref p) H))) from call_tuple_of) (by rfl) B.tuple (by decide +kernel) (pa_cons (pv 2) pa_nil)))) pa_nil)))
      (pss_one (ps_ret (pe_lst (pa_cons (pe_ix ix_tup (pv 0) pe_int (fun _ _ => rfl)) (pa_cons (pe_ix ix_tup (pv 0) pe_int (fun _ _ => rfl)) (pa_cons (pe_ix ix_tup (pv 0) pe_int (fun _ _ => rfl)) (pa_cons (pv 1) (pa_cons (pe_op op_mul (pe_ix ix_tup (pv 0) pe_int (fun _ _ => rfl)) (pe_ix ix_tup (pv 0) pe_int (fun _ _ => rfl))) (pa_cons pe_int (pa_cons pe_int pa_nil))))))))))), ?_⟩
    obtain ⟨rl, xs, hS, hL, hA⟩ := net_vals hd
    have lx : xs.length = e := by rw [DpAll.len hA, List.length_map, tabF_len]
    refine ⟨_, rfl, t, _, _, _, rfl, rfl, Evl.ex_t sG hS, atI_nat (j := 3) rfl, rl, rfl, ⟨xs, Same.seq sG hL⟩, fun D hD => ?_⟩
    have A0 := Acc.start (K := K) sG hD
    refine lc_it walk_list (fun i H3 => ∃ G3, Acc K G H G3 H3 D (((tabF e wd c).take i).map rowT)) ⟨G, by simpa using A0⟩ (fun i H3 _ ⟨G3, A3⟩ => Same.seq (sG.trans A3.h) hL) ?_ ?_
    · rintro i x H3 H4 hi ⟨G3, A3⟩ ⟨rfl, hx⟩
      have hie : i < e := by omega
      obtain ⟨d, hd1, hd2⟩ := DpAll.at' hA hx
      rw [List.getElem?_map, tabF_at hie] at hd1
      obtain rfl := Option.some.inj hd1
      obtain ⟨xr, ys, rfl, hLr, hAr⟩ := row_vals hd2
      refine ⟨rfl, ?_⟩
      refine ⟨_, rfl, xr, ys, rfl, .inl ⟨Same.seq (sG.trans A3.h) hLr, fun p hp => ?_⟩⟩
      have fn := Fut.new (o := .tup ys) A3.s hp
      have A4 := A3.fut fn
      have dp : Dp K (upd G3 p (.tup ys)) (.ref p) (rowT ((List.range wd).map fun j => c i j)) := .tup (Evl.st_of upd_same) (DpAll.mono (A3.g.trans fn.g) _ _ hAr)
      obtain ⟨acc, h1, h2, h3⟩ := A4.snoc dp (by rw [List.length_map, List.length_take, tabF_len]; omega)
      refine ⟨acc, h1, h2, upd G3 p (.tup ys), ?_⟩
      have et : ((tabF e wd c).take (i + 1)).map rowT = ((tabF e wd c).take i).map rowT ++ [rowT ((List.range wd).map fun j => c i j)] := by
        rw [List.take_add_one, tabF_at hie, List.map_append]
        rfl
      rw [et]
      exact h3
    · rintro H3 ⟨G3, A3⟩
      obtain ⟨vs, h1, h2⟩ := A3.ls
      rw [lx, List.take_of_length_le (by rw [tabF_len]; exact Nat.le_refl _)] at h2
      refine ⟨D, vs, rfl, .inl ⟨SqL.of h1, fun p hp => ?_⟩⟩
      have fn := Fut.new (o := .tup vs) A3.s hp
      have A4 := A3.fut fn
      have f4 : Fut G H (upd G3 p (.tup vs)) (upd H3 p (.tup vs)) := ⟨A4.g, A4.h, A4.s, A4.n⟩
      have dT : Dp K (upd G3 p (.tup vs)) (.ref p) (tabT (tabF e wd c)) := .tup (Evl.st_of upd_same) (DpAll.mono fn.g _ _ h2)
      generalize (upd G3 p (.tup vs)) = G4 at f4 dT
      generalize (upd H3 p (.tup vs)) = H4 at f4 ⊢
      have hS4 := Evl.ex_t (f4.g.trans f4.s) hS
      refine ⟨_, rfl, t, _, _, _, rfl, rfl, hS4, atI_nat (j := 0) rfl, _, rfl, t, _, _, _, rfl, rfl, hS4, atI_nat (j := 1) rfl, _, rfl, t, _, _, _, rfl, rfl, hS4, atI_nat (j := 2) rfl, _, rfl,
        _, rfl, t, _, _, _, rfl, rfl, hS4, atI_nat (j := 0) rfl, _, rfl, t, _, _, _, rfl, rfl, hS4, atI_nat (j := 1) rfl, _, _, rfl, rfl, .inl (by constructor <;> omega), (by show 7 ≤ sizeLine; decide), fun p2 hp2 => ?_⟩
      have fn2 := Fut.new (o := .lst [.int (e : Nat), .int (wd : Nat), .int (k : Nat), .ref p, .int ((e : Int) * (wd : Int)), .int 6, .int 12]) f4.s hp2
      refine q p2 _ _ (f4.trans fn2) (.lst (SqL.of upd_same) (.cons (.int _) (.cons (.int _) (.cons (.int _) (.cons (Dp.mono fn2.g _ _ dT) (.cons ?_ (.cons (.int _) (.cons (.int _) .nil))))))))
      rw [show ((e * wd : Nat) : Int) = (e : Int) * (wd : Int) from by push_cast; rfl]
      exact .int _
end
end W2

namespace W2
open PySem PySem.Spec PyProof.Rows L2 Pg Pf Rul Tab
def spPairsRight (K : PySem.W.Frag) (C : Addr) : Sp := fun vs H Q _ => ∃ (G : Hp) (t a : Addr) (e w k : Nat) (c : Nat → Nat → List Int), vs = [.ref t, .ref a] ∧ Same G H ∧ Dp K G (.ref t) (netF e w k c) ∧ WayAt K C G a e w k c ∧ ∀ H', Same H H' → Q (.bl true) H'
abbrev s__law_pairs_right : Stmt := top 27
abbrev N__law_pairs_right : List Str := ["_law_net_here", "_law_road", "_law_n", "_law_k", "_law_told"]
theorem sc__law_pairs_right : FnScope N__law_pairs_right ["_law_net_here", "_law_road"] (defScope s__law_pairs_right) := ⟨rfl, rfl, rfl, by decide +kernel, rfl, by decide +kernel, by decide +kernel⟩
section
variable {P : Program} {w : World} {K : PySem.W.Frag} {mg : Str → Option Value} {base : Heap} {f C : Addr} {fd : FuncData}
/-- the entry of a net -/
theorem net_at {G : Hp} {rl : Addr} {xs : List V} {e w i j : Nat} {c : Nat → Nat → List Int} (hL : SqL K G rl xs) (hA : DpAll K G xs ((tabF e w c).map rowL)) (hi : i < e) (hj : j < w) :
    ∃ (xr xc : Addr) (ys : List V), xs[i]? = some (.ref xr) ∧ SqL K G xr ys ∧ ys[j]? = some (.ref xc) ∧ Dp K G (.ref xc) (cellD (c i j)) := by
  obtain ⟨y, hy, hdy⟩ := DpAll.at hA (i := i) (d := rowL ((List.range w).map fun j => c i j)) (by rw [List.getElem?_map, tabF_at hi] <;> rfl)
  obtain ⟨xr, ys, rfl, h1, h2⟩ := row_vals hdy
  obtain ⟨z, hz, hdz⟩ := DpAll.at h2 (i := j) (d := cellD (c i j)) (by rw [List.getElem?_map, rowF_at hj] <;> rfl)
  obtain ⟨xc, rfl⟩ : ∃ x, z = .ref x := by
    cases hdz with
    | tup a b => exact ⟨_, rfl⟩
  exact ⟨xr, xc, ys, hy, h1, hz, hdz⟩
theorem ok_pairs_right (B : Bt mg) (cN : CalG P w K mg base 2 "_law_pairs" (spPairsN K)) (cA : Mo P w K mg base 4 C "allowed" (spAllowed K C)) (cB : Alk P w K mg base 4 C (spAllowed K C)) (F : Fun K "_law_pairs_right" "_law_pairs_right" s__law_pairs_right f fd) : FnG P w K mg base 5 f fd ["_law_net_here", "_law_road"] (spPairsRight K C) := by
  refine okG F sc__law_pairs_right (fun vs H Q E h => ?_) (fun cdv A outer s H vs Q E hr hgd h => ?_)
  · obtain ⟨G, t, a, e, w, k, c, rfl, _⟩ := h
    rfl
  · obtain ⟨G, t, a, e, wd, k, c, rfl, sG, hd, W, q⟩ := h
    have nd := sc__law_pairs_right.nd
    refine ⟨_, (pss_cons (ps_for PassesOwn.never rfl (pi_list (pe_cG cN hr (by decide) hgd rfl (pa_cons (pv 0) pa_nil))) (pg_tup rfl (pgs_cons (pg_name (i := 2) nd rfl (Or.inl rfl)) (pgs_cons (pg_name (i := 3) nd rfl (Or.inl rfl)) pgs_nil)))
      (pss_cons (ps_set (i := 4) nd rfl (Or.inl rfl) (pe_lst (pa_cons (pe_mo cA hr (by decide) (pv 1) (pa_cons (pv 2) (pa_cons (pv 3) pa_nil))) (pa_cons (pe_allowedK cB hr (by decide) (pv 1) (pv 3) (pv 2)) pa_nil))))
      (pss_one (ps_if (pt_cmpR op_ne (pe_callB (call_reprD hgd hr.units) (by rfl) B.repr (by decide +kernel) (pa_cons (pv 4) pa_nil)) (pe_callB (call_reprD hgd hr.units) (by rfl) B.repr (by decide +kernel) (pa_cons (pe_op op_rep (pe_lst (pa_cons (pe_ix ix_list (pe_ix ix_list (pe_ix ix_tup (pv 0) pe_int (fun _ _ => rfl)) (pv 2) (fun _ _ => rfl)) (pv 3) (fun _ _ => rfl)) pa_nil)) pe_int) pa_nil)) (nomark _)) (pss_one (ps_ret pe_bl)) pss_nil))))
      (pss_one (ps_ret pe_bl))), ?_⟩
    obtain ⟨rl, xs, hS, hL, hA⟩ := net_vals hd
    obtain ⟨dx, tw, ha, _⟩ := W.ob
    have r2 := W.r2
    have l2 := W.l2
    have l1 := W.l1
    refine ⟨_, rfl, G, t, e, wd, k, c, rfl, sG, hd, r2, l2, fun p G1 H1 f1 d1 => ?_⟩
    obtain ⟨vp, hLp, hP⟩ := dp_list d1
    have lvp : vp.length = e * wd := by rw [DpAll.len hP, List.length_map, pairs_len]
    refine ⟨p, rfl, ⟨_, Same.seq f1.s hLp⟩, for_list (K := K) (a := p) (xs := vp) (fun n σ H3 => ∃ (v2 v3 v4 : Option V), σ = [some (.ref t), some (.ref a), v2, v3, v4] ∧ Same H1 H3) ⟨none, none, none, rfl, Same.refl _⟩ (fun n σ H3 _ ⟨_, _, _, _, s3⟩ => Same.seq (f1.s.trans s3) hLp) ?_ ?_⟩
    · rintro n x σ H3 hx ⟨v2, v3, v4, rfl, s3⟩
      have hn : n < e * wd := by
        rw [← lvp]
        exact (List.getElem?_eq_some_iff.mp hx).1
      obtain ⟨d, hd1, hd2⟩ := DpAll.at' hP hx
      rw [List.getElem?_map, pairs_at wd (by omega) e n hn] at hd1
      obtain rfl := Option.some.inj hd1
      obtain ⟨px, rfl, hpx⟩ := pair_vals hd2
      have hnr : n / wd < e := Nat.div_lt_of_lt_mul (by rw [Nat.mul_comm]; exact hn)
      have hnl : n % wd < wd := Nat.mod_lt _ (by omega)
      have g3 : Same G H3 := (f1.g.trans f1.s).trans s3
      obtain ⟨xr, xc, ys, b1, b2, b3, b4⟩ := net_at hL hA hnr hnl
      have fc := fine_cell (W.ok _ _ hnr hnl) (by have := W.k2; omega)
      refine ⟨px, _, rfl, Evl.ex_t (f1.s.trans s3) hpx, rfl, _, _, rfl, _, _, rfl, rfl, ?_⟩
      refine ⟨_, rfl, a, dx, _, rfl, g3 _ _ ha, wf_no _ _ _ _ (by decide +kernel) (by decide +kernel) (by decide +kernel) (by decide +kernel), _, rfl, _, rfl, G, a, e, wd, k, n / wd, n % wd, c, rfl, g3, W, hnr, hnl, fun x1 dx1 => ?_⟩
      refine ⟨_, rfl, a, dx, _, rfl, g3 _ _ ha, wf_no _ _ _ _ (by decide +kernel) (by decide +kernel) (by decide +kernel) (by decide +kernel), _, rfl, _, rfl, _, _, rfl, G, a, e, wd, k, n / wd, n % wd, c, rfl, g3, W, hnr, hnl, fun x2 dx2 => ?_⟩
      refine ⟨(by show 2 ≤ sizeLine; decide), fun L hL0 => ?_⟩
      have f4 := Fut.new (o := .lst [.ref x1, .ref x2]) g3 hL0
      have d4 : Dp K (upd G L (.lst [.ref x1, .ref x2])) (.ref L) (.list [cellD (c (n / wd) (n % wd)), cellD (c (n / wd) (n % wd))]) := .lst (SqL.of upd_same) (.cons (Dp.mono f4.g _ _ dx1) (.cons (Dp.mono f4.g _ _ dx2) .nil))
      have fine2 : Fine 2 1000 (.list [cellD (c (n / wd) (n % wd)), cellD (c (n / wd) (n % wd))]) := ((FineAll.cons fc (.cons fc (.nil (wt := 0)))).monoW (by decide)).list
      have s4 : Same H3 (upd H3 L (.lst [.ref x1, .ref x2])) := f4.h
      generalize (upd G L (.lst [.ref x1, .ref x2])) = G4 at f4 d4
      generalize (upd H3 L (.lst [.ref x1, .ref x2])) = H4 at f4 s4 ⊢
      have g4 := f4.g.trans f4.s
      refine ⟨_, rfl, ?_⟩
      dsimp only [tNil]
      refine ⟨L, _, rfl, Dp.mono f4.s _ _ d4, fine2.sh, fine2.nodict, Nat.le_trans fine2.dp (by decide), fine2.fits (by decide), ?_⟩
      refine ⟨_, rfl, t, _, _, _, rfl, rfl, Evl.ex_t g4 hS, atI_nat (j := 3) rfl, _, rfl, rl, _, _, _, rfl, rfl, Same.seq g4 hL, atI_nat b1, _, rfl, xr, _, _, _, rfl, rfl, Same.seq g4 b2, atI_nat b3, (by show 1 ≤ sizeLine; decide), fun L2 hL2 => ?_⟩
      refine ⟨L2, 2, [.ref xc], rfl, rfl, upd_same, by decide, by decide, (by show 1 * 2 ≤ sizeLine; decide), fun L3 hL3 => ?_⟩
      have s5 : Same H4 (upd H4 L2 (.lst [.ref xc])) := Same.new hL2
      have s6 : Same (upd H4 L2 (.lst [.ref xc])) (upd (upd H4 L2 (.lst [.ref xc])) L3 (.lst (List.replicate (2 : Int).toNat [V.ref xc]).flatten)) := Same.new hL3
      have d6 : Dp K (upd (upd H4 L2 (.lst [.ref xc])) L3 (.lst (List.replicate (2 : Int).toNat [V.ref xc]).flatten)) (.ref L3) (.list [cellD (c (n / wd) (n % wd)), cellD (c (n / wd) (n % wd))]) :=
        .lst (SqL.of upd_same) (.cons (Dp.mono ((g4.trans s5).trans s6) _ _ b4) (.cons (Dp.mono ((g4.trans s5).trans s6) _ _ b4) .nil))
      dsimp only [tNil]
      refine ⟨L3, _, rfl, d6, fine2.sh, fine2.nodict, Nat.le_trans fine2.dp (by decide), fine2.fits (by decide), ?_⟩
      refine ⟨rfl, _, rfl, ?_⟩
      rw [decide_eq_true rfl]
      refine iteF ?_
      exact ⟨_, _, _, rfl, ((s3.trans s4).trans s5).trans s6⟩
    · rintro σ H3 ⟨v2, v3, v4, rfl, s3⟩
      exact q H3 (f1.h.trans s3)
end
end W2

namespace W2
open PySem PySem.Spec PyProof.Rows L2 Pg Pf Rul Tab
/-- an own object stands first in a comparison with one of this type, and this type is not the class -/
def OdT (K : PySem.W.Frag) (C : Addr) (t : Value) : Prop := PySem.W.notFirst K C t = true ∧ PySem.W.kitOne K t (.ref C) = some false
structure Od (K : PySem.W.Frag) (C : Addr) : Prop where
  no : OdT K C (.type "NoneType")
  tu : OdT K C (.type "tuple")
  it : OdT K C (.type "int")
  st : OdT K C (.type "str")
  ls : OdT K C (.type "list")
  dc : OdT K C (.type "dict")
theorem ty_mono {K : PySem.W.Frag} {H H' : Hp} {x : V} {t : Value} (h : TyX K H x t) (s : Same H H') : TyX K H' x t := by
  cases h with
  | base b =>
    cases b with
    | non => exact .base .non
    | bl y => exact .base (.bl y)
    | int i => exact .base (.int i)
    | str y => exact .base (.str y)
    | flt y => exact .base (.flt y)
    | lst e => exact .base (.lst (s _ _ e))
    | frz e => exact .base (.frz (s _ _ e))
    | tup e => exact .base (.tup (s _ _ e))
    | dK e => exact .base (.dK (s _ _ e))
    | dT e => exact .base (.dT (s _ _ e))
    | ins e => exact .base (.ins (s _ _ e) ‹_› ‹_› ‹_› ‹_› ‹_›)
  | byt b => exact .byt b
  | set e => exact .set (s _ _ e)
  | kList e c => exact .kList e c
  | kTuple e c => exact .kTuple e c
  | kDict e c => exact .kDict e c
  | fTuple e => exact .fTuple (s _ _ e)
  | fDict e => exact .fDict (s _ _ e)
theorem ty_tup {K : PySem.W.Frag} {H : Hp} {a : Addr} {xs : List V} (h : SqT K H a xs) : TyX K H (.ref a) (.type "tuple") := by
  rcases h with (h | ⟨o, h⟩) | ⟨o, its, n, h1, h2, _⟩
  · exact .base (.tup h)
  · exact .fTuple h
  · exact .kTuple h1 h2
/-- not equal to the way -/
def Odd (K : PySem.W.Frag) (C : Addr) (G : Hp) (r l k : Nat) (c : Nat → Nat → List Int) (x : V) : Prop :=
  (∃ t, TyX K G x t ∧ OdT K C t) ∨ (∃ (b : Addr) (r' l' k' : Nat) (c' : Nat → Nat → List Int), x = .ref b ∧ WayAt K C G b r' l' k' c' ∧ (decide (k = k') && decide (tabF r l c = tabF r' l' c')) = false)
theorem Odd.mono {K : PySem.W.Frag} {C : Addr} {G G' : Hp} {r l k : Nat} {c : Nat → Nat → List Int} {x : V} (h : Odd K C G r l k c x) (s : Same G G') : Odd K C G' r l k c x := by
  rcases h with ⟨t, a, b⟩ | ⟨b, r', l', k', c', e, W, d⟩
  · exact .inl ⟨t, ty_mono a s, b⟩
  · exact .inr ⟨b, r', l', k', c', e, W.mono s, d⟩
section
variable {P : Program} {w : World} {K : PySem.W.Frag} {mg : Str → Option Value} {base : Heap} {f C : Addr} {fd : FuncData} {ke kl : Nat} {spL : Sp}
theorem notFirst_self : PySem.W.notFirst K C (.ref C) = true := by
  unfold PySem.W.notFirst
  simp
theorem rd_ww {neg : Bool} (cE : We P w K mg base ke kl C (spEqW K C) spL) {G H : Hp} {a b : Addr} {r l k r' l' k' : Nat} {c c' : Nat → Nat → List Int} {Q : VK} (s : Same G H) (Wa : WayAt K C G a r l k c) (Wb : WayAt K C G b r' l' k' c')
    (q : Q (.bl (if neg = true then !(decide (k = k') && decide (tabF r l c = tabF r' l' c')) else (decide (k = k') && decide (tabF r l c = tabF r' l' c')))) H) : rCmpW K C (spEqW K C) neg (.ref a) (.ref b) H Q := by
  obtain ⟨dx, t, ha, _⟩ := Wa.ob
  obtain ⟨dy, t', hb, _⟩ := Wb.ob
  exact ⟨a, dx, _, .ref C, rfl, s _ _ ha, .base (.ins (s _ _ hb) cE.cl cE.ha cE.hn cE.htk cE.hm), notFirst_self, G, a, .ref b, r, l, k, c, rfl, s, Wa, .inl ⟨b, r', l', k', c', rfl, Wb, _, rfl, q⟩⟩
theorem rd_wo {neg : Bool} (cE : We P w K mg base ke kl C (spEqW K C) spL) {G H : Hp} {a : Addr} {x : V} {r l k : Nat} {c : Nat → Nat → List Int} {Q : VK} (s : Same G H) (Wa : WayAt K C G a r l k c) (o : Odd K C G r l k c x)
    (q : Q (.bl neg) H) : rCmpW K C (spEqW K C) neg (.ref a) x H Q := by
  have q' : Q (.bl (if neg = true then !false else false)) H := by
    cases neg <;> exact q
  rcases o with ⟨t, ty, o1, o2⟩ | ⟨b, r', l', k', c', rfl, W, d⟩
  · obtain ⟨dx, tt, ha, _⟩ := Wa.ob
    exact ⟨a, dx, _, t, rfl, s _ _ ha, (ty_mono ty s), o1, G, a, x, r, l, k, c, rfl, s, Wa, .inr ⟨t, (ty_mono ty s), o2, _, rfl, q'⟩⟩
  · exact rd_ww cE s Wa W (by rw [d]; exact q')
end
theorem rd_sm {P : Program} {w : World} {K : PySem.W.Frag} {mg : Str → Option Value} {base : Heap} {C : Addr} {ke kl : Nat} {spL : Sp} {neg : Bool} (cE : We P w K mg base ke kl C (spEqW K C) spL) {G H : Hp} {a b : Addr} {r l k : Nat} {c : Nat → Nat → List Int} {Q : VK} (s : Same G H) (Wa : WayAt K C G a r l k c) (Wb : WayAt K C G b r l k c)
    (q : Q (.bl (!neg)) H) : rCmpW K C (spEqW K C) neg (.ref a) (.ref b) H Q := by
  refine rd_ww cE s Wa Wb ?_
  rw [decide_eq_true rfl, decide_eq_true rfl]
  cases neg <;> exact q
theorem tabF_inj {r l : Nat} {c c' : Nat → Nat → List Int} (h : tabF r l c = tabF r l c') {i j : Nat} (hi : i < r) (hj : j < l) : c i j = c' i j := by
  have e := congrArg (fun x => x[i]?) h
  simp only [tabF_at hi] at e
  have e2 := congrArg (fun x => x[j]?) (Option.some.inj e)
  simp only [rowF_at hj] at e2
  exact Option.some.inj e2
theorem cell_up {k k' : Int} {ns : List Int} (h : Cell k ns) (hk : k ≤ k') : Cell k' ns := ⟨h.1, h.2.1, fun x hx => ⟨(h.2.2 x hx).1, Int.lt_of_lt_of_le (h.2.2 x hx).2 hk⟩⟩
/-- one of two or more places goes: one stays -/
theorem one_gone {k : Int} {ns : List Int} {z : Int} (h : Cell k ns) (hl : 1 < ns.length) : (ns.filter fun x => !decide (x ∈ [z])) ≠ [] := by
  obtain ⟨_, h1, _⟩ := h
  match ns, hl, h1 with
  | x :: y :: r, _, h1 =>
    rw [List.pairwise_cons] at h1
    have hxy := h1.1 y List.mem_cons_self
    intro e
    rw [List.filter_eq_nil_iff] at e
    have a := e x List.mem_cons_self
    have b := e y (List.mem_cons_of_mem _ List.mem_cons_self)
    simp at a b
    omega
theorem less_ne {r l k i j : Nat} {c : Nat → Nat → List Int} {z : Int} (hi : i < r) (hj : j < l) (hz : z ∈ c i j) : (decide (k = k) && decide (tabF r l c = tabF r l (less c i j [z]))) = false := by
  rw [decide_eq_true rfl, Bool.true_and, decide_eq_false_iff_not]
  intro e
  have q := tabF_inj e hi hj
  unfold less put2 at q
  rw [if_pos ⟨rfl, rfl⟩] at q
  rw [q, List.mem_filter] at hz
  simp at hz
/-- the list of what is not equal to the way, while it grows -/
structure Ot (K : PySem.W.Frag) (C : Addr) (e wd k : Nat) (cc : Nat → Nat → List Int) (m c q : Addr) (b : Nat) (G0 H0 G H : Hp) (L : Addr) (vs : List V) (n : Nat) : Prop where
  l : H L = some (.lst vs)
  g : G L = none
  h0 : H0 L = none
  o : ∀ x ∈ vs, Odd K C G e wd k cc x
  len : vs.length ≤ n
  f : FutM m q G0 H0 G H
  M : MAt G H m c q b
  ne : L ≠ m ∧ L ≠ c ∧ L ≠ q
theorem Ot.futM {K : PySem.W.Frag} {C : Addr} {e wd k : Nat} {cc : Nat → Nat → List Int} {m c q : Addr} {b b' : Nat} {G0 H0 G H G' H' : Hp} {L : Addr} {vs : List V} {n : Nat} (o : Ot K C e wd k cc m c q b G0 H0 G H L vs n) (f : FutM m q G H G' H') (M : MAt G' H' m c q b') : Ot K C e wd k cc m c q b' G0 H0 G' H' L vs n :=
  ⟨f.h L _ o.l o.ne.1 o.ne.2.2, FutM.fresh f o.M.s (by rw [o.l]; simp) o.g, o.h0, fun x hx => (o.o x hx).mono f.g, o.len, o.f.trans f, M, o.ne⟩
theorem Ot.fut {K : PySem.W.Frag} {C : Addr} {e wd k : Nat} {cc : Nat → Nat → List Int} {m c q : Addr} {b : Nat} {G0 H0 G H G' H' : Hp} {L : Addr} {vs : List V} {n : Nat} (o : Ot K C e wd k cc m c q b G0 H0 G H L vs n) (f : Fut G H G' H') : Ot K C e wd k cc m c q b G0 H0 G' H' L vs n :=
  o.futM f.m (o.M.fut f)
theorem Ot.push {K : PySem.W.Frag} {C : Addr} {e wd k : Nat} {cc : Nat → Nat → List Int} {m c q : Addr} {b : Nat} {G0 H0 G H : Hp} {L : Addr} {vs : List V} {n : Nat} (o : Ot K C e wd k cc m c q b G0 H0 G H L vs n) {v : V} (hv : Odd K C G e wd k cc v) : Ot K C e wd k cc m c q b G0 H0 G (upd H L (.lst (vs ++ [v]))) L (vs ++ [v]) (n + 1) :=
  ⟨upd_same, o.g, o.h0, fun x hx => by
    rcases List.mem_append.mp hx with z | z
    · exact o.o x z
    · rw [List.mem_singleton] at z
      exact z ▸ hv, by rw [List.length_append]; have := o.len; show vs.length + 1 ≤ _; omega, FutM.mut o.f o.h0 o.g, MAt.mut o.M o.ne o.g, o.ne⟩
theorem Ot.fresh {K : PySem.W.Frag} {C : Addr} {e wd k : Nat} {cc : Nat → Nat → List Int} {m c q : Addr} {b : Nat} {G0 H0 G H : Hp} {L : Addr} {vs : List V} {n : Nat} (f : FutM m q G0 H0 G H) (M : MAt G H m c q b) (hL : H L = none) (o : ∀ x ∈ vs, Odd K C G e wd k cc x) (hn : vs.length ≤ n) : Ot K C e wd k cc m c q b G0 H0 G (upd H L (.lst vs)) L vs n :=
  have gL : G L = none := M.s.free hL
  ⟨upd_same, gL, f.k L hL, o, hn, FutM.mut f (f.k L hL) gL, MAt.mut M (MAt.ne M hL) gL, MAt.ne M hL⟩
/-- an if with one branch, before the rest -/
theorem if_join {c : Bool} {A : TS} {D : Ends} {σ : L2.St} {H : Hp} (J : L2.St → Hp → Prop) (rest : ∀ σ' H', J σ' H' → D.nx σ' H') (h1 : c = true → ∀ D' : Ends, (∀ σ' H', J σ' H' → D'.nx σ' H') → A D' σ H) (h2 : c = false → J σ H) :
    if c = true then A D σ H else tNext D σ H := by
  cases c with
  | true => exact iteT (h1 rfl D rest)
  | false => exact iteF (rest _ _ (h2 rfl))
def spEqRight (K : PySem.W.Frag) (C : Addr) : Sp := fun vs H Q _ => ∃ (G : Hp) (m c q : Addr) (b : Nat) (t a : Addr) (e wd k : Nat) (cc : Nat → Nat → List Int), vs = [.ref m, .ref t, .ref a] ∧ MAt G H m c q b ∧ b ≤ 800000000 ∧ Dp K G (.ref t) (netF e wd k cc) ∧ WayAt K C G a e wd k cc ∧
  ∀ (G' H' : Hp), FutM m q G H G' H' → MAt G' H' m c q (b + 3) → Q (.bl true) H'
abbrev s__law_equal_right : Stmt := top 28
abbrev N__law_equal_right : List Str := ["_law_m", "_law_net_here", "_law_road", "_law_same", "_law_others", "_law_n", "_law_k", "_law_odd"]
theorem sc__law_equal_right : FnScope N__law_equal_right ["_law_m", "_law_net_here", "_law_road"] (defScope s__law_equal_right) := ⟨rfl, rfl, rfl, by decide +kernel, rfl, by decide +kernel, by decide +kernel⟩
section
variable {P : Program} {w : World} {K : PySem.W.Frag} {mg : Str → Option Value} {base : Heap} {f C : Addr} {fd : FuncData}
theorem ok_equal_right (B : Bt mg) (O : Od K C) (T : Wt K mg C) (cD : CalG P w K mg base 3 "_law_draw" spDraw) (cW : CalG P w K mg base 8 "_law_way" (spWay K C)) (cM : Ma P w K mg base 4 "Way" C (spInit K C)) (cL : Clo P w K mg base 7 C (spClosing K C)) (cT : Pr P w K mg base C "table" "_table")
    (cE : We P w K mg base 2 5 C (spEqW K C) (spLenW K C)) (F : Fun K "_law_equal_right" "_law_equal_right" s__law_equal_right f fd) : FnG P w K mg base 9 f fd ["_law_m", "_law_net_here", "_law_road"] (spEqRight K C) := by
  refine okG F sc__law_equal_right (fun vs H Q E h => ?_) (fun cdv A outer s H vs Q E hr hgd h => ?_)
  · obtain ⟨G, m, c, q, b, t, a, e, wd, k, cc, rfl, _⟩ := h
    rfl
  · obtain ⟨G, m, c, q, b, t, a, e, wd, k, cc, rfl, M, hb, hd, W, fin⟩ := h
    have nd := sc__law_equal_right.nd
    refine ⟨_, (pss_cons (ps_set (i := 3) nd rfl (Or.inl rfl) (pe_cG cW hr (by decide) hgd rfl (pa_cons (pv 1) pa_nil)))
    (pss_cons (ps_if (pt_cmpR (op_neD hr.units) (pe_lst (pa_cons (pe_cmpR (op_eqW cE hr (by decide)) (pv 2) (pv 3) (nomark _)) (pa_cons (pe_cmpR (op_eqW cE hr (by decide)) (pv 3) (pv 2) (nomark _)) (pa_cons (pe_cmpR (op_neW cE hr (by decide)) (pv 2) (pv 3) (nomark _)) (pa_cons (pe_cmpR (op_eqW cE hr (by decide)) (pv 2) (pv 2) (nomark _)) pa_nil))))) (pe_lst (pa_cons pe_bl (pa_cons pe_bl (pa_cons pe_bl (pa_cons pe_bl pa_nil))))) (nomark _)) (pss_one (ps_ret pe_bl)) pss_nil)
    (pss_cons (ps_set (i := 4) nd rfl (Or.inl rfl) (pe_lst (pa_cons pe_non (pa_cons (pe_tup (pa_cons (pe_ix ix_tup (pv 1) pe_int (fun _ _ => rfl)) (pa_cons (pe_ix ix_tup (pv 1) pe_int (fun _ _ => rfl)) (pa_cons (pe_ix ix_tup (pv 1) pe_int (fun _ _ => rfl)) pa_nil)))) (pa_cons (pe_pr cT hr (by decide) (pv 2)) (pa_cons (pe_callB (call_lenW cE hr (by decide)) (by rfl) B.len PySem.boot_len (pa_cons (pv 2) pa_nil)) (pa_cons pe_str (pa_cons (pe_lst pa_nil) (pa_cons pe_dnewK pa_nil)))))))))
    (pss_cons (ps_par (i := 5) (j := 6) rfl nd rfl rfl (by decide) rfl rfl (pa_cons (pe_cG cD hr (by decide) hgd rfl (pa_cons (pv 0) (pa_cons (pe_ix ix_tup (pv 1) pe_int (fun _ _ => rfl)) pa_nil))) (pa_cons (pe_cG cD hr (by decide) hgd rfl (pa_cons (pv 0) (pa_cons (pe_ix ix_tup (pv 1) pe_int (fun _ _ => rfl)) pa_nil))) pa_nil)) rfl)
    (pss_cons (ps_if (pt_cmpR op_gt (pe_callB call_len_seq (by rfl) B.len PySem.boot_len (pa_cons (pe_ix ix_list (pe_ix ix_list (pe_ix ix_tup (pv 1) pe_int (fun _ _ => rfl)) (pv 5) (fun _ _ => rfl)) (pv 6) (fun _ _ => rfl)) pa_nil)) pe_int (nomark _)) (pss_one (ps_expr (pe_bm PySem.F.plainAttrs_list PySem.F.slot_list_append PySem.F.type_list_append mt_append (pv 4) (pa_cons (pe_closing cL hr (by decide) (pv 2) (pe_ix ix_tup (pe_ix ix_list (pe_ix ix_list (pe_ix ix_tup (pv 1) pe_int (fun _ _ => rfl)) (pv 5) (fun _ _ => rfl)) (pv 6) (fun _ _ => rfl)) (pe_cG cD hr (by decide) hgd rfl (pa_cons (pv 0) (pa_cons (pe_callB call_len_seq (by rfl) B.len PySem.boot_len (pa_cons (pe_ix ix_list (pe_ix ix_list (pe_ix ix_tup (pv 1) pe_int (fun _ _ => rfl)) (pv 5) (fun _ _ => rfl)) (pv 6) (fun _ _ => rfl)) pa_nil)) pa_nil))) (fun _ _ => rfl)) (pv 5) (pv 6)) pa_nil)))) pss_nil)
    (pss_cons (ps_if (pt_cmpR op_lt (pe_ix ix_tup (pv 1) pe_int (fun _ _ => rfl)) pe_int (nomark _)) (pss_one (ps_set (i := 4) nd rfl (Or.inl rfl) (pe_op op_cat (pv 4) (pe_lst (pa_cons (pe_ma cM hr (by decide) rfl (pa_cons (pe_ix ix_tup (pv 1) pe_int (fun _ _ => rfl)) (pa_cons (pe_ix ix_tup (pv 1) pe_int (fun _ _ => rfl)) (pa_cons (pe_op op_add (pe_ix ix_tup (pv 1) pe_int (fun _ _ => rfl)) pe_int) pa_nil)))) (pa_cons (pe_cG cW hr (by decide) hgd rfl (pa_cons (pe_tup (pa_cons (pe_ix ix_tup (pv 1) pe_int (fun _ _ => rfl)) (pa_cons (pe_ix ix_tup (pv 1) pe_int (fun _ _ => rfl)) (pa_cons (pe_op op_add (pe_ix ix_tup (pv 1) pe_int (fun _ _ => rfl)) pe_int) (pa_cons (pe_ix ix_tup (pv 1) pe_int (fun _ _ => rfl)) pa_nil))))) pa_nil)) pa_nil)))))) pss_nil)
    (pss_cons (ps_if (pt_cmpR op_ne (pe_ix ix_tup (pv 1) pe_int (fun _ _ => rfl)) (pe_ix ix_tup (pv 1) pe_int (fun _ _ => rfl)) (nomark _)) (pss_one (ps_expr (pe_bm PySem.F.plainAttrs_list PySem.F.slot_list_append PySem.F.type_list_append mt_append (pv 4) (pa_cons (pe_ma cM hr (by decide) rfl (pa_cons (pe_ix ix_tup (pv 1) pe_int (fun _ _ => rfl)) (pa_cons (pe_ix ix_tup (pv 1) pe_int (fun _ _ => rfl)) (pa_cons (pe_ix ix_tup (pv 1) pe_int (fun _ _ => rfl)) pa_nil)))) pa_nil)))) pss_nil)
    (pss_one (ps_ret (pe_cmpR (op_eqD hr.units) (pe_lc (own := [("_law_odd", 7)]) rfl nd (pi_list (pv 4)) (blkOk_by (N := N__law_equal_right) (sc := defScope s__law_equal_right) (by decide +kernel)) (fun _ _ _ _ _ => (pg_name (i := 7) nd rfl (Or.inl rfl))) (fun _ _ _ _ _ => pts_one (PW.pt (pw_or (pt_cmpR (show OpR _ (compareOp .IsNot) rNotB from op_notBl) (pe_cmpR (show OpR _ (compareOp .Eq) (rCmpW K C (spEqW K C) false) from op_eqW cE hr (by decide)) (pv 2) (pv 7) (nomark _)) pe_bl (nomark _)) (pw_or1 (pt_cmpR (show OpR _ (compareOp .IsNot) rNotB from op_notBl) (pe_cmpR (show OpR _ (compareOp .NotEq) (rCmpW K C (spEqW K C) true) from op_neW cE hr (by decide)) (pv 2) (pv 7) (nomark _)) pe_bl (nomark _)))))) (fun _ _ _ _ _ => pe_int)) (pe_lst pa_nil) (nomark _))))))))))), ?_⟩
    obtain ⟨rl, xs, hS, hL, hA⟩ := net_vals hd
    have r1 := W.r1
    have r2 := W.r2
    have l1 := W.l1
    have l2 := W.l2
    have k1 := W.k1
    have k2 := W.k2
    refine ⟨_, rfl, G, t, e, wd, k, cc, rfl, M.s, hd, r1, r2, l1, l2, k1, k2, W.ok, fun a2 G1 H1 f1 W1 => ?_⟩
    have M1 := M.fut f1
    have W0 := W.mono f1.g
    refine ⟨_, rfl, _, rfl, rd_sm cE M1.s W0 W1 ⟨_, rfl, _, rfl, rd_sm cE M1.s W1 W0 ⟨_, rfl, _, rfl, rd_sm cE M1.s W0 W1 ⟨_, rfl, _, rfl, rd_sm cE M1.s W0 W0 ⟨(by show 4 ≤ sizeLine; decide), fun L0 hL0 => ⟨(by show 4 ≤ sizeLine; decide), fun L1 hL1 => ?_⟩⟩⟩⟩⟩⟩
    have s2 := (Same.new (o := .lst [.bl true, .bl true, .bl false, .bl true]) hL0).trans (Same.new (o := .lst [.bl true, .bl true, .bl false, .bl true]) hL1)
    refine ⟨.list [.bool true, .bool true, .bool false, .bool true], .list [.bool true, .bool true, .bool false, .bool true], .lst (SqL.of (by rw [upd_ne (ne_of_none upd_same hL1)]; exact upd_same)) (.cons (.bl _) (.cons (.bl _) (.cons (.bl _) (.cons (.bl _) .nil)))), .lst (SqL.of upd_same) (.cons (.bl _) (.cons (.bl _) (.cons (.bl _) (.cons (.bl _) .nil)))), rfl, rfl, _, rfl, ?_⟩
    refine iteF ?_
    have f2 : Fut G H G1 (upd (upd H1 L0 (.lst [.bl !false, .bl !false, .bl !true, .bl !false])) L1 (.lst [.bl true, .bl true, .bl false, .bl true])) := f1.trans (Fut.up f1.s s2)
    generalize (upd (upd H1 L0 (.lst [.bl !false, .bl !false, .bl !true, .bl !false])) L1 (.lst [.bl true, .bl true, .bl false, .bl true])) = H2 at f2 ⊢
    clear s2
    refine ⟨_, rfl, t, _, _, _, rfl, rfl, Evl.ex_t (f2.g.trans f2.s) hS, atI_nat (j := 0) rfl, _, rfl, t, _, _, _, rfl, rfl, Evl.ex_t (f2.g.trans f2.s) hS, atI_nat (j := 1) rfl, _, rfl, t, _, _, _, rfl, rfl, Evl.ex_t (f2.g.trans f2.s) hS, atI_nat (j := 2) rfl, (by show 3 ≤ sizeLine; decide), fun p hp => ?_⟩
    have f3 := f2.trans (Fut.new (o := .tup [.int (e : Nat), .int (wd : Nat), .int (k : Nat)]) f2.s hp)
    have tp : (upd G1 p (.tup [.int (e : Nat), .int (wd : Nat), .int (k : Nat)])) p = some (.tup [.int (e : Nat), .int (wd : Nat), .int (k : Nat)]) := upd_same
    generalize (upd G1 p (.tup [.int (e : Nat), .int (wd : Nat), .int (k : Nat)])) = G3 at f3 tp
    generalize (upd H2 p (.tup [.int (e : Nat), .int (wd : Nat), .int (k : Nat)])) = H3 at f3 ⊢
    obtain ⟨dx, tt, ha, hdt⟩ := W.ob
    have hrl := Nat.mul_le_mul r2 l2
    have ha3 := (f3.g.trans f3.s) _ _ ha
    refine ⟨_, rfl, rd_pr ha3 (wf_t _ _ _ _) ⟨_, rfl, a, dx, _, rfl, ha3, G3, a, e, wd, k, cc, rfl, f3.s, W.mono f3.g, fun H4 s4 => ⟨_, rfl, by omega, by omega, ?_⟩⟩⟩
    refine ⟨(by show 0 ≤ sizeLine; decide), fun pl hpl => fun pd hpd => ⟨(by show 7 ≤ sizeLine; decide), fun L hLn => ?_⟩⟩
    have f4 := f3.trans (Fut.up f3.s s4)
    have f5 := f4.trans (Fut.new (o := .lst []) f4.s hpl)
    have tl : (upd G3 pl (.lst [])) pl = some (.lst []) := upd_same
    have f6 := f5.trans (Fut.new (o := .dK []) f5.s hpd)
    have tl6 : (upd (upd G3 pl (.lst [])) pd (.dK [])) pl = some (.lst []) := by
      rw [upd_ne (ne_of_none (f5.s _ _ tl) hpd)]
      exact tl
    have tp6 : (upd (upd G3 pl (.lst [])) pd (.dK [])) p = some (.tup [.int (e : Nat), .int (wd : Nat), .int (k : Nat)]) := by
      rw [upd_ne (ne_of_none (f5.s _ _ (by rw [upd_ne (ne_of_none (s4 _ _ (f3.s _ _ tp)) hpl)]; exact tp)) hpd), upd_ne (ne_of_none (s4 _ _ (f3.s _ _ tp)) hpl)]
      exact tp
    have td : (upd (upd G3 pl (.lst [])) pd (.dK [])) pd = some (.dK []) := upd_same
    generalize (upd (upd G3 pl (.lst [])) pd (.dK [])) = G6 at f6 tl6 tp6 td
    generalize (upd (upd H4 pl (.lst [])) pd (.dK [])) = H6 at f6 hLn ⊢
    obtain ⟨ts, hts, _⟩ := dp_tup (Dp.mono f6.g _ _ hdt)
    have ot := Ot.fresh (K := K) (C := C) (e := e) (wd := wd) (k := k) (cc := cc) (n := 7) (vs := [.non, .ref p, .ref tt, .int ((e * wd : Nat) : Int), .str "way", .ref pl, .ref pd]) f6.m (M.fut f6) hLn (fun x hx => by
      simp only [List.mem_cons, List.not_mem_nil, or_false] at hx
      rcases hx with rfl | rfl | rfl | rfl | rfl | rfl | rfl
      · exact .inl ⟨_, .base .non, O.no⟩
      · exact .inl ⟨_, .base (.tup tp6), O.tu⟩
      · exact .inl ⟨_, ty_tup hts, O.tu⟩
      · exact .inl ⟨_, .base (.int _), O.it⟩
      · exact .inl ⟨_, .base (.str _), O.st⟩
      · exact .inl ⟨_, .base (.lst tl6), O.ls⟩
      · exact .inl ⟨_, .base (.dK td), O.dc⟩) (Nat.le_refl _)
    generalize (upd H6 L (.lst [.non, .ref p, .ref tt, .int ((e * wd : Nat) : Int), .str "way", .ref pl, .ref pd])) = H7 at ot ⊢
    generalize [V.non, V.ref p, V.ref tt, V.int ((e * wd : Nat) : Int), V.str "way", V.ref pl, V.ref pd] = vs at ot
    have gt := ot.f.g.trans ot.M.s
    refine ⟨_, rfl, _, rfl, t, _, _, _, rfl, rfl, Evl.ex_t gt hS, atI_nat (j := 0) rfl, G6, m, c, q, b, (e : Nat), rfl, ot.M, by omega, by omega, by omega, fun d1 H8 x0 x1 f8 M8 => ?_⟩
    have ot8 := ot.futM f8 M8
    have gt8 := ot8.f.g.trans ot8.M.s
    refine ⟨_, rfl, _, rfl, t, _, _, _, rfl, rfl, Evl.ex_t gt8 hS, atI_nat (j := 1) rfl, G6, m, c, q, b + 1, (wd : Nat), rfl, M8, by omega, by omega, by omega, fun d2 H9 y0 y1 f9 M9 => ⟨_, _, rfl, ?_⟩⟩
    have ot9 := ot8.futM f9 M9
    have gt9 := ot9.f.g.trans ot9.M.s
    obtain ⟨i, rfl⟩ : ∃ i : Nat, d1 = i := ⟨d1.toNat, by omega⟩
    obtain ⟨j, rfl⟩ : ∃ j : Nat, d2 = j := ⟨d2.toNat, by omega⟩
    have hi : i < e := by omega
    have hj : j < wd := by omega
    obtain ⟨xr, xc, ys, b1, b2, b3, b4⟩ := net_at hL hA hi hj
    have hcv := cell_vals b4
    refine ⟨_, rfl, t, _, _, _, rfl, rfl, Evl.ex_t gt9 hS, atI_nat (j := 3) rfl, _, rfl, rl, _, _, _, rfl, rfl, Same.seq gt9 hL, atI_nat b1, _, rfl, xr, _, _, _, rfl, rfl, Same.seq gt9 b2, atI_nat b3, xc, _, rfl, .inr (Evl.ex_t gt9 hcv), _, _, rfl, rfl, _, rfl, ?_⟩
    have hc := W.ok i j hi hj
    have hcl := cell_len hc (by omega)
    have lcl : (List.map V.int (cc i j)).length = (cc i j).length := List.length_map ..
    refine if_join (fun σ' H' => ∃ (G' : Hp) (vs' : List V) (b' : Nat), σ' = [some (.ref m), some (.ref t), some (.ref a), some (.ref a2), some (.ref L), some (.int (i : Nat)), some (.int (j : Nat)), none] ∧ Ot K C e wd k cc m c q b' G H G' H' L vs' 8 ∧ b' ≤ b + 3) ?_ (fun h1 D' rest => ?_) (fun _ => ⟨G6, vs, _, rfl, ⟨ot9.l, ot9.g, ot9.h0, ot9.o, by have := ot9.len; omega, ot9.f, ot9.M, ot9.ne⟩, by omega⟩)
    rotate_left
    · have h1' := of_decide_eq_true h1
      refine ⟨_, rfl, .inl ⟨rfl, _, SqL.of ot9.l⟩, ?_⟩
      refine ⟨_, rfl, a, dx, _, rfl, gt9 _ _ ha, wf_no _ _ _ _ (by decide +kernel) (by decide +kernel) (by decide +kernel) (by decide +kernel), ?_⟩
      refine ⟨_, rfl, t, _, _, _, rfl, rfl, Evl.ex_t gt9 hS, atI_nat (j := 3) rfl, _, rfl, rl, _, _, _, rfl, rfl, Same.seq gt9 hL, atI_nat b1, _, rfl, xr, _, _, _, rfl, rfl, Same.seq gt9 b2, atI_nat b3, ?_⟩
      refine ⟨_, rfl, _, rfl, t, _, _, _, rfl, rfl, Evl.ex_t gt9 hS, atI_nat (j := 3) rfl, _, rfl, rl, _, _, _, rfl, rfl, Same.seq gt9 hL, atI_nat b1, _, rfl, xr, _, _, _, rfl, rfl, Same.seq gt9 b2, atI_nat b3, xc, _, rfl, .inr (Evl.ex_t gt9 hcv), G6, m, c, q, b + 1 + 1, _, rfl, M9, by omega, by omega, by omega, fun d3 H10 z0 z1 f10 M10 => ?_⟩
      have ot10 := ot9.futM f10 M10
      have gt10 := ot10.f.g.trans ot10.M.s
      obtain ⟨n, rfl⟩ : ∃ n : Nat, d3 = n := ⟨d3.toNat, by omega⟩
      have hn : n < (cc i j).length := by omega
      have hz : (cc i j)[n]? = some ((cc i j)[n]) := List.getElem?_eq_getElem hn
      generalize (cc i j)[n] = z at hz
      have hzm := List.mem_of_getElem? hz
      refine ⟨xc, _, _, .int z, rfl, rfl, Evl.ex_t gt10 hcv, atI_nat (by rw [List.getElem?_map, hz] <;> rfl), _, rfl, _, rfl, _, _, _, rfl, rfl, fun p2 hp2 => ?_⟩
      have f11 := Fut.new (o := .tup [.int z]) M10.s hp2
      have ot11 := ot10.fut f11
      refine ⟨_, a, p2, e, wd, k, i, j, cc, [z], rfl, f11.s, W.mono ot11.f.g, Evl.st_of upd_same, by show 1 ≤ 1000; decide, fun x hx => by rw [List.mem_singleton] at hx; exact hx ▸ hc.2.2 z hzm, hi, hj, one_gone hc (by omega), fun b2 G12 H12 f12 W12 => ?_⟩
      have ot12 := ot11.fut f12
      refine ⟨L, vs, _, rfl, rfl, ot12.l, small1000 (by have := ot12.len; omega), ?_⟩
      exact rest _ _ ⟨G12, _, _, rfl, ot12.push (.inr ⟨b2, e, wd, k, _, rfl, W12, less_ne hi hj hzm⟩), by omega⟩
    rintro σ' H' ⟨G', vs', b', rfl, ot', hb'⟩
    have gt' := ot'.f.g.trans ot'.M.s
    refine ⟨_, rfl, t, _, _, _, rfl, rfl, Evl.ex_t gt' hS, atI_nat (j := 2) rfl, _, _, rfl, rfl, _, rfl, ?_⟩
    refine if_join (fun σ' H' => ∃ (G' : Hp) (L : Addr) (vs' : List V), σ' = [some (.ref m), some (.ref t), some (.ref a), some (.ref a2), some (.ref L), some (.int (i : Nat)), some (.int (j : Nat)), none] ∧ Ot K C e wd k cc m c q b' G H G' H' L vs' 10) ?_ (fun h1 D' rest => ?_) (fun _ => ⟨G', L, vs', rfl, ⟨ot'.l, ot'.g, ot'.h0, ot'.o, by have := ot'.len; omega, ot'.f, ot'.M, ot'.ne⟩⟩)
    rotate_left
    · have h1' := of_decide_eq_true h1
      refine ⟨_, rfl, _, rfl, t, _, _, _, rfl, rfl, Evl.ex_t gt' hS, atI_nat (j := 0) rfl, _, rfl, t, _, _, _, rfl, rfl, Evl.ex_t gt' hS, atI_nat (j := 1) rfl, _, rfl, t, _, _, _, rfl, rfl, Evl.ex_t gt' hS, atI_nat (j := 2) rfl, _, _, rfl, rfl, ?_⟩
      dsimp only [tNil]
      refine mk_way (k := k + 1) ot'.M.s r1 r2 l1 l2 (by omega) (by omega) fun a3 G4 H4 f4 W4 => ?_
      have ot4 := ot'.fut f4
      have gt4 := ot4.f.g.trans ot4.M.s
      refine ⟨_, rfl, t, _, _, _, rfl, rfl, Evl.ex_t gt4 hS, atI_nat (j := 0) rfl, _, rfl, t, _, _, _, rfl, rfl, Evl.ex_t gt4 hS, atI_nat (j := 1) rfl, _, rfl, t, _, _, _, rfl, rfl, Evl.ex_t gt4 hS, atI_nat (j := 2) rfl, _, _, rfl, rfl, _, rfl, t, _, _, _, rfl, rfl, Evl.ex_t gt4 hS, atI_nat (j := 3) rfl, (by show 4 ≤ sizeLine; decide), fun p3 hp3 => ?_⟩
      have f5 := Fut.new (o := .tup [.int (e : Nat), .int (wd : Nat), .int ((k + 1 : Nat) : Int), .ref rl]) ot4.M.s hp3
      have ot5 := ot4.fut f5
      refine ⟨upd G4 p3 (.tup [.int (e : Nat), .int (wd : Nat), .int ((k + 1 : Nat) : Int), .ref rl]), p3, e, wd, k + 1, cc, rfl, f5.s, .tup (Evl.st_of upd_same) (.cons (.int _) (.cons (.int _) (.cons (.int _) (.cons (.lst (Same.seq ot5.f.g hL) (DpAll.mono ot5.f.g _ _ hA)) .nil)))), r1, r2, l1, l2, by omega, by omega, fun x y hx hy => cell_up (W.ok x y hx hy) (by omega), fun a4 G6 H6 f6 W6 => ?_⟩
      have ot6 := ot5.fut f6
      refine ⟨(by show 2 ≤ sizeLine; decide), fun L2 hL2 => ?_⟩
      have ot7 := Ot.fresh (K := K) (C := C) (e := e) (wd := wd) (k := k) (cc := cc) (n := 2) (vs := [.ref a3, .ref a4]) ot6.f ot6.M hL2 (fun x hx => by
        simp only [List.mem_cons, List.not_mem_nil, or_false] at hx
        rcases hx with rfl | rfl
        · exact .inr ⟨_, _, _, _, _, rfl, (W4.mono f5.g).mono f6.g, by rw [decide_eq_false (by omega)] <;> rfl⟩
        · exact .inr ⟨_, _, _, _, _, rfl, W6, by rw [decide_eq_false (by omega)] <;> rfl⟩) (Nat.le_refl _)
      refine ⟨L, L2, vs', _, rfl, rfl, by rw [upd_ne (ne_of_none ot6.l hL2)]; exact ot6.l, upd_same, Nat.le_of_lt (small1000 (by have := ot6.len; show vs'.length + 2 ≤ 1000; omega)), fun p4 hp4 => ?_⟩
      have ot8 := Ot.fresh (K := K) (C := C) (e := e) (wd := wd) (k := k) (cc := cc) (n := 10) (vs := vs' ++ [.ref a3, .ref a4]) ot7.f ot7.M hp4 (fun x hx => by
        rcases List.mem_append.mp hx with z | z
        · exact ot6.o x z
        · exact ot7.o x z) (by have := ot6.len; rw [List.length_append]; show vs'.length + 2 ≤ 10; omega)
      exact rest _ _ ⟨_, _, _, rfl, ot8⟩
    rintro σ' H' ⟨G', L, vs', rfl, ot'⟩
    have gt' := ot'.f.g.trans ot'.M.s
    refine ⟨_, rfl, t, _, _, _, rfl, rfl, Evl.ex_t gt' hS, atI_nat (j := 0) rfl, _, rfl, t, _, _, _, rfl, rfl, Evl.ex_t gt' hS, atI_nat (j := 1) rfl, rfl, _, rfl, ?_⟩
    refine if_join (fun σ' H' => ∃ (G' : Hp) (vs' : List V), σ' = [some (.ref m), some (.ref t), some (.ref a), some (.ref a2), some (.ref L), some (.int (i : Nat)), some (.int (j : Nat)), none] ∧ Ot K C e wd k cc m c q b' G H G' H' L vs' 11) ?_ (fun h1 D' rest => ?_) (fun _ => ⟨G', vs', rfl, ⟨ot'.l, ot'.g, ot'.h0, ot'.o, by have := ot'.len; omega, ot'.f, ot'.M, ot'.ne⟩⟩)
    rotate_left
    · have h1' : e ≠ wd := by
        intro z
        rw [z, decide_eq_true rfl] at h1
        cases h1
      refine ⟨_, rfl, .inl ⟨rfl, _, SqL.of ot'.l⟩, ?_⟩
      refine ⟨_, rfl, t, _, _, _, rfl, rfl, Evl.ex_t gt' hS, atI_nat (j := 1) rfl, _, rfl, t, _, _, _, rfl, rfl, Evl.ex_t gt' hS, atI_nat (j := 0) rfl, _, rfl, t, _, _, _, rfl, rfl, Evl.ex_t gt' hS, atI_nat (j := 2) rfl, ?_⟩
      dsimp only [tNil]
      refine mk_way ot'.M.s l1 l2 r1 r2 k1 k2 fun a3 G4 H4 f4 W4 => ?_
      have ot4 := ot'.fut f4
      refine ⟨L, vs', _, rfl, rfl, ot4.l, small1000 (by have := ot4.len; omega), ?_⟩
      refine rest _ _ ⟨G4, _, rfl, ot4.push (.inr ⟨a3, wd, e, k, _, rfl, W4, ?_⟩)⟩
      rw [decide_eq_true rfl, Bool.true_and, decide_eq_false_iff_not]
      intro z
      have z2 := congrArg List.length z
      rw [tabF_len, tabF_len] at z2
      exact h1' z2
    rintro σ' H' ⟨G', vs', rfl, ot'⟩
    have gt' := ot'.f.g.trans ot'.M.s
    refine ⟨_, rfl, L, rfl, ⟨_, SqL.of ot'.l⟩, fun D hD => ?_⟩
    have nLD : L ≠ D := ne_of_none ot'.l hD
    refine lc_list (K := K) (a := L) (xs := vs') (fun i H2 => Same H' H2 ∧ H2 D = some (.lst [])) ⟨Same.new hD, upd_same⟩ (fun i H2 _ ⟨s2, _⟩ => Same.seq s2 (SqL.of ot'.l)) ?_ ?_
    · rintro i x H2 hx ⟨s2, hD2⟩
      have ho := (ot'.o x (List.mem_of_getElem? hx)).mono (Same.refl _)
      have sg : Same G' H2 := ot'.M.s.trans s2
      refine ⟨rfl, ?_⟩
      refine ⟨_, rfl, _, rfl, rd_wo cE sg (W.mono ot'.f.g) ho ⟨false, false, rfl, rfl, _, rfl, ?_⟩⟩
      refine iteF ?_
      refine ⟨_, rfl, _, rfl, rd_wo cE sg (W.mono ot'.f.g) ho ⟨true, true, rfl, rfl, _, rfl, ?_⟩⟩
      refine iteF ?_
      exact ⟨s2, hD2⟩
    · rintro H2 ⟨s2, hD2⟩
      refine ⟨(by show 0 ≤ sizeLine; decide), fun L3 hL3 => ?_⟩
      refine ⟨.list [], .list [], .lst (SqL.of (by rw [upd_ne (ne_of_none hD2 hL3)]; exact hD2)) .nil, .lst (SqL.of upd_same) .nil, rfl, rfl, ?_⟩
      have f3 := Fut.up ot'.M.s (s2.trans (Same.new (o := .lst []) hL3))
      exact fin _ _ (ot'.f.trans f3.m) ((ot'.M.fut f3).mono (by omega))
end
end W2

namespace W2
open PySem PySem.Spec PyProof.Rows L2 Pg Pf Rul Tab
/-- a table of rows of one length, by its entries -/
theorem tab_of {R : List (List (List Int))} {e w : Nat} (h1 : R.length = e) (h2 : ∀ r ∈ R, r.length = w) : ∃ c : Nat → Nat → List Int, R = tabF e w c ∧ ∀ i j, i < e → j < w → ∃ r ∈ R, c i j ∈ r := by
  refine ⟨fun i j => ((R[i]?).getD [])[j]?.getD [], ?_, fun i j hi hj => ?_⟩
  · apply List.ext_getElem?
    intro i
    by_cases hi : i < e
    · rw [tabF_at hi]
      have hR : R[i]? = some (R[i]'(by omega)) := List.getElem?_eq_getElem (by omega)
      rw [hR]
      congr 1
      have hl := h2 _ (List.mem_of_getElem? hR)
      apply List.ext_getElem?
      intro j
      by_cases hj : j < w
      · have hr : (R[i]'(by omega))[j]? = some ((R[i]'(by omega))[j]'(by omega)) := List.getElem?_eq_getElem (by omega)
        rw [rowF_at hj, hr]
        show some _ = some (((R[i]'(by omega))[j]?).getD [])
        rw [hr]
        rfl
      · rw [List.getElem?_eq_none_iff.mpr (by omega), List.getElem?_eq_none_iff.mpr (by rw [List.length_map, List.length_range]; omega)]
    · rw [List.getElem?_eq_none_iff.mpr (by omega), List.getElem?_eq_none_iff.mpr (by rw [tabF_len]; omega)]
  · have hR : R[i]? = some (R[i]'(by omega)) := List.getElem?_eq_getElem (by omega)
    have hm := List.mem_of_getElem? hR
    have hl := h2 _ hm
    refine ⟨_, hm, ?_⟩
    have hr : (R[i]'(by omega))[j]? = some ((R[i]'(by omega))[j]'(by omega)) := List.getElem?_eq_getElem (by omega)
    show ((R[i]?).getD [])[j]?.getD [] ∈ _
    rw [hR]
    show (R[i]'(by omega))[j]?.getD [] ∈ _
    rw [hr]
    exact List.mem_of_getElem? hr
theorem net_F {most many e w k : Int} {R : List (List (List Int))} (N : Net most many e w k R) (hm : most ≤ 6) (hk : many ≤ 12) : ∃ (e' w' k' : Nat) (c : Nat → Nat → List Int), netD e w k R = netF e' w' k' c ∧ 1 ≤ e' ∧ e' ≤ 6 ∧ 1 ≤ w' ∧ w' ≤ 6 ∧ 1 ≤ k' ∧ k' ≤ 12 ∧ ∀ i j, i < e' → j < w' → Cell (k' : Int) (c i j) := by
  obtain ⟨e1, e2, w1, w2, k1, k2, len, row⟩ := N
  obtain ⟨e', rfl⟩ : ∃ n : Nat, e = n := ⟨e.toNat, by omega⟩
  obtain ⟨w', rfl⟩ : ∃ n : Nat, w = n := ⟨w.toNat, by omega⟩
  obtain ⟨k', rfl⟩ : ∃ n : Nat, k = n := ⟨k.toNat, by omega⟩
  obtain ⟨c, hR, hc⟩ := tab_of (R := R) (e := e') (w := w') (by omega) (fun r hr => by have := (row r hr).1; omega)
  refine ⟨e', w', k', c, by rw [hR] <;> rfl, by omega, by omega, by omega, by omega, by omega, by omega, fun i j hi hj => ?_⟩
  obtain ⟨r, hr, hcr⟩ := hc i j hi hj
  exact (row r hr).2 _ hcr
/-- a net and the way that was made of it -/
def NW (K : PySem.W.Frag) (C : Addr) (G : Hp) (x y : V) : Prop := ∃ (t a : Addr) (e w k : Nat) (c : Nat → Nat → List Int), x = .ref t ∧ y = .ref a ∧ Dp K G (.ref t) (netF e w k c) ∧ WayAt K C G a e w k c
theorem NW.mono {K : PySem.W.Frag} {C : Addr} {G G' : Hp} {x y : V} (h : NW K C G x y) (s : Same G G') : NW K C G' x y := by
  obtain ⟨t, a, e, w, k, c, h1, h2, h3, h4⟩ := h
  exact ⟨t, a, e, w, k, c, h1, h2, Dp.mono s _ _ h3, h4.mono s⟩
structure Rt (K : PySem.W.Frag) (C : Addr) (m c q : Addr) (b : Nat) (G H : Hp) (Ln Lr : Addr) (ts as : List V) (n : Nat) : Prop where
  ln : H Ln = some (.lst ts)
  lr : H Lr = some (.lst as)
  gn : G Ln = none
  gr : G Lr = none
  tl : ts.length = n
  al : as.length = n
  nw : ∀ (i : Nat) (x y : V), ts[i]? = some x → as[i]? = some y → NW K C G x y
  M : MAt G H m c q b
  n1 : Ln ≠ m ∧ Ln ≠ c ∧ Ln ≠ q
  n2 : Lr ≠ m ∧ Lr ≠ c ∧ Lr ≠ q
  n3 : Ln ≠ Lr
theorem Rt.futM {K : PySem.W.Frag} {C m c q : Addr} {b b' : Nat} {G H G' H' : Hp} {Ln Lr : Addr} {ts as : List V} {n : Nat} (r : Rt K C m c q b G H Ln Lr ts as n) (f : FutM m q G H G' H') (M : MAt G' H' m c q b') : Rt K C m c q b' G' H' Ln Lr ts as n :=
  ⟨f.h _ _ r.ln r.n1.1 r.n1.2.2, f.h _ _ r.lr r.n2.1 r.n2.2.2, FutM.fresh f r.M.s (by rw [r.ln]; simp) r.gn, FutM.fresh f r.M.s (by rw [r.lr]; simp) r.gr, r.tl, r.al, fun i x y a b => (r.nw i x y a b).mono f.g, M, r.n1, r.n2, r.n3⟩
theorem Rt.fut {K : PySem.W.Frag} {C m c q : Addr} {b : Nat} {G H G' H' : Hp} {Ln Lr : Addr} {ts as : List V} {n : Nat} (r : Rt K C m c q b G H Ln Lr ts as n) (f : Fut G H G' H') : Rt K C m c q b G' H' Ln Lr ts as n := r.futM f.m (r.M.fut f)
theorem read_eq {r l k r' l' k' : Nat} {c c' : Nat → Nat → List Int} (h1 : 1 ≤ r) (h2 : 1 ≤ r') : PyData.eqv (readD r l k c) (readD r' l' k' c') = (decide (k = k') && decide (tabF r l c = tabF r' l' c')) := by
  have e : PyData.eqv (readD r l k c) (readD r' l' k' c') = (((r : Int) == (r' : Int)) && (((l : Int) == (l' : Int)) && (((k : Int) == (k' : Int)) && (PyData.eqv (tabT (tabF r l c)) (tabT (tabF r' l' c')) && ((((r * l : Nat) : Int) == ((r' * l' : Nat) : Int)) && (((6 : Int) == 6) && (((12 : Int) == 12) && true))))))) := rfl
  rw [e, eqv_tabT, Bool.eq_iff_iff]
  by_cases hT : tabF r l c = tabF r' l' c'
  · have er : r = r' := by
      have z := congrArg List.length hT
      rw [tabF_len, tabF_len] at z
      exact z
    have el : l = l' := by
      have z := congrArg (fun x => x[0]?) hT
      simp only [tabF_at (show 0 < r by omega), tabF_at (show 0 < r' by omega)] at z
      have z2 := congrArg List.length (Option.some.inj z)
      rw [List.length_map, List.length_map, List.length_range, List.length_range] at z2
      exact z2
    subst er el
    simp [hT]
    omega
  · simp [hT]
theorem fine_read {r l k : Nat} {c : Nat → Nat → List Int} (r2 : r ≤ 6) (l2 : l ≤ 6) (k2 : k ≤ 12) (h : ∀ i j, i < r → j < l → Cell (k : Int) (c i j)) : Fine 4 20000 (readD r l k c) := by
  have hrl := Nat.mul_le_mul r2 l2
  have z : FineAll 3 _ _ := FineAll.cons (n := 3) (Fine.int (i := (r : Nat)) (by omega)) (FineAll.cons (Fine.int (i := (l : Nat)) (by omega)) (FineAll.cons (Fine.int (i := (k : Nat)) (by omega)) (FineAll.cons (fine_tabT h (by omega) r2 l2) (FineAll.cons (Fine.int (i := ((r * l : Nat) : Int)) (by omega)) (FineAll.cons (Fine.int (i := 6) (by decide)) (FineAll.cons (Fine.int (i := 12) (by decide)) (FineAll.nil (wt := 0))))))))
  exact (z.monoW (by decide)).list
def spLaw (K : PySem.W.Frag) : Sp := fun vs H Q _ => ∃ (a : Addr) (ns : List Int), vs = [.ref a] ∧ SqL K H a (ns.map V.int) ∧ ns.length ≤ 63 ∧ ∀ H', Q (.bl true) H'
abbrev s_law : Stmt := top 29
abbrev N_law : List Str := ["_law_script", "_law_m", "_law_nets", "_law_roads", "_law_again", "_law_net_here", "_law_road", "_law_far", "_law_is_same"]
theorem sc_law : FnScope N_law ["_law_script"] (defScope s_law) := ⟨rfl, rfl, rfl, by decide +kernel, rfl, by decide +kernel, by decide +kernel⟩
section
variable {P : Program} {w : World} {K : PySem.W.Frag} {mg : Str → Option Value} {base : Heap} {f C : Addr} {fd : FuncData}
theorem ok_law (B : Bt mg) (cB : CalG P w K mg base 3 "_law_begun" (spBegun K)) (cD : CalG P w K mg base 3 "_law_draw" spDraw) (cN : CalG P w K mg base 5 "_law_net" (spNet K)) (cW : CalG P w K mg base 8 "_law_way" (spWay K C)) (cR : CalG P w K mg base 7 "_law_read" (spRead K C)) (cS : CalG P w K mg base 2 "_law_shown" (spShown K))
    (cQ : CalG P w K mg base 9 "_law_equal_right" (spEqRight K C)) (cP : CalG P w K mg base 5 "_law_pairs_right" (spPairsRight K C)) (cM : Ma P w K mg base 4 "Way" C (spInit K C)) (cA : Mo P w K mg base 4 C "allowed" (spAllowed K C)) (cE : We P w K mg base 2 5 C (spEqW K C) (spLenW K C)) (F : Fun K "law" "law" s_law f fd) :
    FnG P w K mg base 10 f fd ["_law_script"] (spLaw K) := by
  refine okG F sc_law (fun vs H Q E h => ?_) (fun cdv A outer s H vs Q E hr hgd h => ?_)
  · obtain ⟨a, ns, rfl, _⟩ := h
    rfl
  · obtain ⟨sa, ns, rfl, hS, hl, fin⟩ := h
    have nd := sc_law.nd
    refine ⟨_, (pss_cons (ps_set (i := 1) nd rfl (Or.inl rfl) (pe_cG cB hr (by decide) hgd rfl (pa_cons (pv 0) pa_nil)))
    (pss_cons (ps_par (i := 2) (j := 3) rfl nd rfl rfl (by decide) rfl rfl (pa_cons (pe_lst pa_nil) (pa_cons (pe_lst pa_nil) pa_nil)) rfl)
    (pss_cons (ps_for PassesOwn.never rfl (pi_range1 rfl B.range (pa_cons pe_int pa_nil)) (pg_name (i := 4) nd rfl (Or.inl rfl))
    (pss_cons (ps_set (i := 5) nd rfl (Or.inl rfl) (pe_cG cN hr (by decide) hgd rfl (pa_cons (pv 1) (pa_cons (pe_op op_add pe_int (pe_op op_mod (pe_op op_add (pv 4) (pe_cG cD hr (by decide) hgd rfl (pa_cons (pv 1) (pa_cons pe_int pa_nil)))) pe_int)) (pa_cons pe_int pa_nil)))))
    (pss_cons (ps_expr (pe_bm PySem.F.plainAttrs_list PySem.F.slot_list_append PySem.F.type_list_append mt_append (pv 2) (pa_cons (pv 5) pa_nil)))
    (pss_cons (ps_expr (pe_bm PySem.F.plainAttrs_list PySem.F.slot_list_append PySem.F.type_list_append mt_append (pv 3) (pa_cons (pe_cG cW hr (by decide) hgd rfl (pa_cons (pv 5) pa_nil)) pa_nil)))
    (pss_one (ps_if (PW.pt (pw_or (pt_cmpR op_ne (pe_callB (call_reprD hgd hr.units) (by rfl) B.repr (by decide +kernel) (pa_cons (pe_cG cR hr (by decide) hgd rfl (pa_cons (pe_ix ix_list (pv 3) (pe_un un_neg pe_int) (fun _ _ => rfl)) pa_nil)) pa_nil)) (pe_callB (call_reprD hgd hr.units) (by rfl) B.repr (by decide +kernel) (pa_cons (pe_cG cS hr (by decide) hgd rfl (pa_cons (pv 5) pa_nil)) pa_nil)) (nomark _)) (pw_or1 (pt_not (pt_val (pe_cG cQ hr (by decide) hgd rfl (pa_cons (pv 1) (pa_cons (pv 5) (pa_cons (pe_ix ix_list (pv 3) (pe_un un_neg pe_int) (fun _ _ => rfl)) pa_nil))))))))) (pss_one (ps_ret pe_bl)) pss_nil))))))
    (pss_cons (ps_for PassesOwn.never rfl (pi_zip (by rfl) B.zip (pa_cons (pv 2) (pa_cons (pv 3) pa_nil))) (pg_tup rfl (pgs_cons (pg_name (i := 5) nd rfl (Or.inl rfl)) (pgs_cons (pg_name (i := 6) nd rfl (Or.inl rfl)) pgs_nil)))
    (pss_one (ps_if (PW.pt (pw_or (pt_cmpR op_ne (pe_callB (call_reprD hgd hr.units) (by rfl) B.repr (by decide +kernel) (pa_cons (pe_lst (pa_cons (pe_cG cR hr (by decide) hgd rfl (pa_cons (pv 6) pa_nil)) (pa_cons (pe_cG cR hr (by decide) hgd rfl (pa_cons (pv 6) pa_nil)) pa_nil))) pa_nil)) (pe_callB (call_reprD hgd hr.units) (by rfl) B.repr (by decide +kernel) (pa_cons (pe_op op_rep (pe_lst (pa_cons (pe_cG cS hr (by decide) hgd rfl (pa_cons (pv 5) pa_nil)) pa_nil)) pe_int) pa_nil)) (nomark _)) (pw_or1 (pt_not (pt_val (pe_cG cP hr (by decide) hgd rfl (pa_cons (pv 5) (pa_cons (pv 6) pa_nil)))))))) (pss_one (ps_ret pe_bl)) pss_nil)))
    (pss_cons (ps_set (i := 7) nd rfl (Or.inl rfl) (pe_ma cM hr (by decide) rfl (pa_cons pe_int (pa_cons pe_int (pa_cons pe_int pa_nil)))))
    (pss_cons (ps_set (i := 8) nd rfl (Or.inl rfl) (pe_cmpR (op_eqD hr.units) (pe_cG cS hr (by decide) hgd rfl (pa_cons (pe_ix ix_list (pv 2) pe_int (fun _ _ => rfl)) pa_nil)) (pe_cG cR hr (by decide) hgd rfl (pa_cons (pv 7) pa_nil)) (nomark _)))
    (pss_one (ps_ret (pe_cmpR (op_eqD hr.units) (pe_lst (pa_cons (pe_mo cA hr (by decide) (pv 7) (pa_cons pe_int (pa_cons pe_int pa_nil))) (pa_cons (pe_callB (call_lenW cE hr (by decide)) (by rfl) B.len PySem.boot_len (pa_cons (pv 7) pa_nil)) (pa_cons (pe_cmpR (op_eqW cE hr (by decide)) (pv 7) (pe_ix ix_list (pv 3) pe_int (fun _ _ => rfl)) (nomark _)) pa_nil)))) (pe_lst (pa_cons (pe_tupRg rfl (by rfl) B.tuple (prg_1 (by rfl) B.range pe_int)) (pa_cons pe_int (pa_cons (pv 8) pa_nil)))) (nomark _)))))))))), ?_⟩
    refine ⟨_, rfl, sa, ns, rfl, hS, hl, fun m c q H1 s1 M1 => ?_⟩
    refine ⟨(by show 0 ≤ sizeLine; decide), fun Ln hLn => ⟨(by show 0 ≤ sizeLine; decide), fun Lr hLr => ⟨_, _, rfl, ?_⟩⟩⟩
    have gn : H Ln = none := M1.s.free hLn
    have hLr1 : H1 Lr = none := (Same.new hLn).free hLr
    have gr : H Lr = none := M1.s.free hLr1
    have n1 := MAt.ne M1 hLn
    have n2 := MAt.ne M1 hLr1
    have n3 : Ln ≠ Lr := ne_of_none upd_same hLr
    have R0 : Rt K C m c q 0 H (upd (upd H1 Ln (.lst [])) Lr (.lst [])) Ln Lr [] [] 0 :=
      ⟨by rw [upd_ne n3]; exact upd_same, upd_same, gn, gr, rfl, rfl, fun i x y e _ => (by cases i <;> cases e), MAt.mut (MAt.mut M1 n1 gn) n2 gr, n1, n2, n3⟩
    refine ⟨6, rfl, by decide, by decide, for_range (lo := 0) (n := 6) (fun i σ H2 => ∃ (G2 : Hp) (ts as : List V) (v4 v5 : Option V), σ = [some (.ref sa), some (.ref m), some (.ref Ln), some (.ref Lr), v4, v5, none, none, none] ∧ Rt K C m c q (700 * i) G2 H2 Ln Lr ts as i) ⟨H, [], [], none, none, rfl, R0⟩ ?_ ?_⟩
    · rintro i σ H2 hi ⟨G2, ts, as, v4, v5, rfl, R2⟩
      refine ⟨_, rfl, _, rfl, _, rfl, G2, m, c, q, 700 * i, 6, rfl, R2.M, by omega, by decide, by decide, fun r H3 a0 a1 f3 M3 => ⟨_, _, rfl, rfl, _, _, rfl, rfl, (by show (0 : Int) < 6; decide), _, _, rfl, rfl, G2, m, c, q, 700 * i + 1, _, 12, rfl, M3, by omega, by omega, by omega, by decide, by decide, fun t e wd k R G4 H4 hN f4 M4 d4 => ?_⟩⟩
      obtain ⟨e', w', k', cc, hD, e1, e2, w1, w2, k1, k2, hok⟩ := net_F hN (by omega) (by decide)
      rw [hD] at d4
      have R4 := (R2.futM f3 M3).futM f4 M4
      refine ⟨_, rfl, .inl ⟨rfl, _, SqL.of R4.ln⟩, _, rfl, Ln, ts, _, rfl, rfl, R4.ln, small1000 (by have := R4.tl; omega), ?_⟩
      have ln5 : (upd H4 Ln (.lst (ts ++ [.ref t]))) Ln = some (.lst (ts ++ [.ref t])) := upd_same
      have lr5 : (upd H4 Ln (.lst (ts ++ [.ref t]))) Lr = some (.lst as) := by
        rw [upd_ne R4.n3.symm]
        exact R4.lr
      have M5 : MAt G4 (upd H4 Ln (.lst (ts ++ [.ref t]))) m c q (700 * i + 1 + 600) := MAt.mut R4.M R4.n1 R4.gn
      generalize (upd H4 Ln (.lst (ts ++ [.ref t]))) = H5 at ln5 lr5 M5 ⊢
      refine ⟨_, rfl, .inl ⟨rfl, _, SqL.of lr5⟩, _, rfl, G4, t, e', w', k', cc, rfl, M5.s, d4, e1, e2, w1, w2, k1, k2, hok, fun a G6 H6 f6 W6 => ?_⟩
      have ln6 := f6.h _ _ ln5
      have lr6 := f6.h _ _ lr5
      have gn6 := FutM.fresh (m := m) (q := q) f6.m M5.s (by rw [ln5]; simp) R4.gn
      have gr6 := FutM.fresh (m := m) (q := q) f6.m M5.s (by rw [lr5]; simp) R4.gr
      refine ⟨Lr, as, _, rfl, rfl, lr6, small1000 (by have := R4.al; omega), ?_⟩
      have R7 : Rt K C m c q (700 * i + 1 + 600) G6 (upd H6 Lr (.lst (as ++ [.ref a]))) Ln Lr (ts ++ [.ref t]) (as ++ [.ref a]) (i + 1) := by
        refine ⟨by rw [upd_ne R4.n3]; exact ln6, upd_same, gn6, gr6, by rw [List.length_append, R4.tl] <;> rfl, by rw [List.length_append, R4.al] <;> rfl, fun n x y hx hy => ?_, MAt.mut (M5.fut f6) R4.n2 gr6, R4.n1, R4.n2, R4.n3⟩
        have htl := R4.tl
        have hal := R4.al
        by_cases hn : n < i
        · rw [List.getElem?_append_left (by omega)] at hx hy
          exact (R4.nw n x y hx hy).mono f6.g
        · rw [List.getElem?_append_right (by omega), htl] at hx
          rw [List.getElem?_append_right (by omega), hal] at hy
          obtain ⟨z, hz⟩ : ∃ z, n - i = z := ⟨_, rfl⟩
          rw [hz] at hx hy
          cases z with
          | zero =>
            obtain rfl := Option.some.inj hx
            obtain rfl := Option.some.inj hy
            exact ⟨t, a, e', w', k', cc, rfl, rfl, Dp.mono f6.g _ _ d4, W6⟩
          | succ z => cases hx
      generalize (upd H6 Lr (.lst (as ++ [.ref a]))) = H7 at R7 ⊢
      have d6 := Dp.mono f6.g _ _ d4
      have fine := fine_read e2 w2 k2 hok
      refine ⟨_, rfl, _, rfl, Lr, _, _, _, rfl, rfl, SqL.of R7.lr, atI_last _ _, G6, a, e', w', k', cc, rfl, R7.M.s, W6, fun p G8 H8 f8 d8 => ?_⟩
      refine ⟨p, _, rfl, Dp.mono f8.s _ _ d8, fine.sh, fine.nodict, Nat.le_trans fine.dp (by decide), fine.fits (by decide), ?_⟩
      refine ⟨_, rfl, G8, t, e', w', k', cc, rfl, f8.s, Dp.mono f8.g _ _ d6, e2, w2, fun p2 G9 H9 f9 d9 => ?_⟩
      refine ⟨p2, _, rfl, Dp.mono f9.s _ _ d9, fine.sh, fine.nodict, Nat.le_trans fine.dp (by decide), fine.fits (by decide), rfl, _, rfl, ?_⟩
      rw [decide_eq_true rfl]
      refine iteF ?_
      have R9 := R7.fut (f8.trans f9)
      refine ⟨_, rfl, _, rfl, _, rfl, _, rfl, Lr, _, _, _, rfl, rfl, SqL.of R9.lr, atI_last _ _, G9, m, c, q, _, t, a, e', w', k', cc, rfl, R9.M, by omega, Dp.mono (f8.g.trans f9.g) _ _ d6, W6.mono (f8.g.trans f9.g), fun G10 H10 f10 M10 => ⟨_, rfl, ?_⟩⟩
      refine iteF ?_
      have R10 := R9.futM f10 M10
      exact ⟨G10, _, _, _, _, rfl, ⟨R10.ln, R10.lr, R10.gn, R10.gr, R10.tl, R10.al, R10.nw, R10.M.mono (by omega), R10.n1, R10.n2, R10.n3⟩⟩
    · rintro σ H2 ⟨G2, ts, as, v4, v5, rfl, R2⟩
      refine ⟨_, rfl, _, rfl, Ln, Lr, ts, as, rfl, SqL.of R2.ln, SqL.of R2.lr, for_it (walk_zip (n := 6) (by rw [R2.tl, R2.al] <;> rfl)) (fun i σ H3 => ∃ (G3 : Hp) (v5 v6 : Option V), σ = [some (.ref sa), some (.ref m), some (.ref Ln), some (.ref Lr), v4, v5, v6, none, none] ∧ Fut G2 H2 G3 H3)
        ⟨G2, _, _, rfl, Fut.refl R2.M.s⟩ (fun i σ H3 _ ⟨_, _, _, _, f3⟩ => ⟨SqL.of (f3.h _ _ R2.ln), SqL.of (f3.h _ _ R2.lr)⟩) ?_ ?_⟩
      · rintro i x σ H3 H4 hi ⟨G3, v5, v6, rfl, f3⟩ ⟨T', x1, y1, rfl, hT, rfl, q1, q2⟩
        obtain ⟨t, a, e, wd, k, cc, rfl, rfl, hd, W⟩ := R2.nw i x1 y1 q1 q2
        have f4 := f3.trans (Fut.up f3.s (Same.new (o := .tup [.ref t, .ref a]) hT))
        have hT4 : (upd H3 T' (.tup [.ref t, .ref a])) T' = some (.tup [.ref t, .ref a]) := upd_same
        generalize (upd H3 T' (.tup [.ref t, .ref a])) = H4 at f4 hT4 ⊢
        refine ⟨T', _, rfl, SqT.of hT4, rfl, _, _, rfl, _, _, rfl, rfl, ?_⟩
        have fine := fine_read W.r2 W.l2 W.k2 W.ok
        have fine2 : Fine 5 50000 (.list [readD e wd k cc, readD e wd k cc]) := ((FineAll.cons fine (.cons fine (.nil (wt := 0)))).monoW (by decide)).list
        refine ⟨_, rfl, G3, a, e, wd, k, cc, rfl, f4.s, W.mono f4.g, fun p1 G5 H5 f5 d5 => ⟨_, rfl, G5, a, e, wd, k, cc, rfl, f5.s, W.mono (f4.g.trans f5.g), fun p2 G6 H6 f6 d6 => ⟨(by show 2 ≤ sizeLine; decide), fun L hL => ?_⟩⟩⟩
        have fL := Fut.new (o := .lst [.ref p1, .ref p2]) f6.s hL
        refine ⟨L, _, rfl, .lst (SqL.of upd_same) (.cons (Dp.mono ((f6.g.trans fL.g).trans fL.s) _ _ d5) (.cons (Dp.mono (fL.g.trans fL.s) _ _ d6) .nil)), fine2.sh, fine2.nodict, Nat.le_trans fine2.dp (by decide), fine2.fits (by decide), ?_⟩
        have f7 := ((f4.trans f5).trans f6).trans fL
        generalize (upd G6 L (.lst [.ref p1, .ref p2])) = G7 at f7
        generalize (upd H6 L (.lst [.ref p1, .ref p2])) = H7 at f7 ⊢
        refine ⟨_, rfl, G7, t, e, wd, k, cc, rfl, f7.s, Dp.mono f7.g _ _ hd, W.r2, W.l2, fun p3 G8 H8 f8 d8 => ⟨(by show 1 ≤ sizeLine; decide), fun L2 hL2 => ⟨L2, 2, [.ref p3], rfl, rfl, upd_same, by decide, by decide, (by show 1 * 2 ≤ sizeLine; decide), fun L3 hL3 => ?_⟩⟩⟩
        have s9 := (Same.new (o := .lst [.ref p3]) hL2).trans (Same.new (o := .lst (List.replicate (2 : Int).toNat [V.ref p3]).flatten) hL3)
        refine ⟨L3, _, rfl, .lst (SqL.of upd_same) (.cons (Dp.mono (f8.s.trans s9) _ _ d8) (.cons (Dp.mono (f8.s.trans s9) _ _ d8) .nil)), fine2.sh, fine2.nodict, Nat.le_trans fine2.dp (by decide), fine2.fits (by decide), rfl, _, rfl, ?_⟩
        rw [decide_eq_true rfl]
        refine iteF ?_
        have f9 := (f7.trans f8).trans (Fut.up f8.s s9)
        refine ⟨_, rfl, _, rfl, G8, t, a, e, wd, k, cc, rfl, f9.s, Dp.mono f9.g _ _ hd, W.mono f9.g, fun H10 s10 => ⟨_, rfl, ?_⟩⟩
        refine iteF ?_
        exact ⟨G8, _, _, rfl, f9.trans (Fut.up f9.s s10)⟩
      · rintro σ H3 ⟨G3, v5, v6, rfl, f3⟩
        dsimp only [tSeq, tAsg, tMk, tCons, tC, tNil]
        refine mk_way (r := 6) (l := 6) (k := 12) f3.s (by decide) (by decide) (by decide) (by decide) (by decide) (by decide) fun far G4 H4 f4 W4 => ?_
        have htl := R2.tl
        have hal := R2.al
        obtain ⟨x0, hx0⟩ : ∃ x0, ts[0]? = some x0 := ⟨_, List.getElem?_eq_getElem (by omega)⟩
        obtain ⟨y0, hy0⟩ : ∃ y0, as[0]? = some y0 := ⟨_, List.getElem?_eq_getElem (by omega)⟩
        obtain ⟨t, a, e, wd, k, cc, rfl, rfl, hd, W⟩ := R2.nw 0 x0 y0 hx0 hy0
        have f5 := f3.trans f4
        refine ⟨_, rfl, Ln, _, _, _, rfl, rfl, SqL.of (f5.h _ _ R2.ln), atI_nat (j := 0) hx0, G4, t, e, wd, k, cc, rfl, f5.s, Dp.mono f5.g _ _ hd, W.r2, W.l2, fun p G6 H6 f6 d6 => ?_⟩
        refine ⟨_, rfl, G6, far, 6, 6, 12, _, rfl, f6.s, W4.mono f6.g, fun p2 G7 H7 f7 d7 => ?_⟩
        have fin1 := fine_read W.r2 W.l2 W.k2 W.ok
        have fin2 := fine_read W4.r2 W4.l2 W4.k2 W4.ok
        refine ⟨_, _, Dp.mono (f7.g.trans f7.s) _ _ d6, Dp.mono f7.s _ _ d7, fin1.shaped (by decide), fin2.shaped (by decide), ?_⟩
        rw [read_eq W.r1 (by decide)]
        have f8 := f6.trans f7
        obtain ⟨dx, tw, ha, _⟩ := W4.ob
        have ha7 := (f8.g.trans f8.s) _ _ ha
        have Wf := W4.mono f8.g
        refine ⟨_, rfl, far, dx, _, rfl, ha7, wf_no _ _ _ _ (by decide +kernel) (by decide +kernel) (by decide +kernel) (by decide +kernel), ?_⟩
        refine ⟨G7, far, 6, 6, 12, 5, 5, _, rfl, f8.s, Wf, by decide, by decide, fun xc dxc => ?_⟩
        refine ⟨_, rfl, far, dx, _, rfl, ha7, G7, far, 6, 6, 12, _, rfl, f8.s, Wf, fun H8 s8 => ⟨_, rfl, by decide, by decide, ?_⟩⟩
        have f9 := (f5.trans f8).trans (Fut.up f8.s s8)
        refine ⟨_, rfl, _, rfl, Lr, _, _, _, rfl, rfl, SqL.of (f9.h _ _ R2.lr), atI_nat (j := 0) hy0, rd_ww cE f9.s Wf (W.mono f9.g) ⟨(by show 3 ≤ sizeLine; decide), fun L1 hL1 => ?_⟩⟩
        obtain ⟨b2, hb2⟩ : ∃ b2 : Bool, (decide (k = 12) && decide (tabF e wd cc = tabF 6 6 fun _ _ => rangeI ((12 : Nat) : Int))) = b2 := ⟨_, rfl⟩
        have eb : (if false = true then !(decide (12 = k) && decide ((tabF 6 6 fun _ _ => rangeI ((12 : Nat) : Int)) = tabF e wd cc)) else decide (12 = k) && decide ((tabF 6 6 fun _ _ => rangeI ((12 : Nat) : Int)) = tabF e wd cc)) = b2 := by
          rw [← hb2, if_neg (by decide)]
          generalize (tabF 6 6 fun _ _ => rangeI ((12 : Nat) : Int)) = T1
          generalize tabF e wd cc = T2
          have z1 : decide (12 = k) = decide (k = 12) := decide_eq_decide.mpr ⟨Eq.symm, Eq.symm⟩
          have z2 : decide (T1 = T2) = decide (T2 = T1) := decide_eq_decide.mpr ⟨Eq.symm, Eq.symm⟩
          rw [z1, z2]
        rw [eb, hb2]
        refine ⟨_, rfl, RgOk.of_le (by decide) (by decide) (by decide) (by decide), fun t2 ht => ?_⟩
        refine ⟨_, rfl, (by show 3 ≤ sizeLine; decide), fun L2 hL2 => ?_⟩
        have s10 := Same.new (o := .lst [.ref t2, .int 36, .bl b2]) hL2
        have s9 := Same.new (o := .lst [.ref xc, .int ((6 * 6 : Nat) : Int), .bl b2]) hL1
        have s11 := Same.new (o := .tup (rgV 0 12)) ht
        have fineL : Fine 2 1000 (.list [cellD (rangeI 12), .int 36, .bool b2]) := ((FineAll.cons (fine_cell (k := 12) (cell_range (by decide)) (by decide)) (.cons (Fine.int (i := 36) (by decide)) (.cons (Fine.bool b2) (.nil (wt := 0))))).monoW (by decide)).list
        refine ⟨.list [cellD (rangeI 12), .int 36, .bool b2], .list [cellD (rangeI 12), .int 36, .bool b2], .lst (SqL.of ((s11.trans s10) _ _ upd_same)) (.cons (Dp.mono ((f9.s.trans s9).trans (s11.trans s10)) _ _ dxc) (.cons (.int 36) (.cons (.bl _) .nil))), .lst (SqL.of upd_same) (.cons (dp_cell ?_) (.cons (.int _) (.cons (.bl _) .nil))), fineL.shaped (by decide), fineL.shaped (by decide), ?_⟩
        · rw [← rangeI_V]
          exact s10 _ _ upd_same
        · show Q (.bl (PyData.eqv _ _)) _
          rw [eqv_rfl _ fineL.lay]
          exact fin _
end
end W2

namespace W2
open PySem PySem.Spec PyProof.Rows L2 Pg Pf Rul Tab
/-- the goal of the head (case hc) from a promise that is kept where nothing is being shown -/
theorem walkG {l : PySem.W.OpenLaw} {n k : Nat} {q : Program} {loose : List Str} {XP : (Str → Option Value) → Heap → Prop} {YP : World → Heap → Prop} {d : DefRec} {K : Params → PySem.W.Frag} {sp : PySem.W.Frag → Sp} {x : Str}
    (most : l.most = some n) (fits : n ≤ sizeLine) (plain : d.params.defaults = []) (room : Room k callerA) (free : callerA.guards = some []) (inY : ∀ (w : World) (h : Heap), YP w h → (K w.params).In h)
    (F : ∀ (w : World) (mg : Str → Option Value) (fa : Addr) (h : Heap), (K w.params).In h → h.Ns mainGlobals mg → mg d.name = some (.ref fa) → ∃ fd : FuncData, (∀ (s : Shared) (u : Value), BindsTo s fd ⟨[u], []⟩ [(x, u)]) ∧ ∀ base : Heap, (K w.params).In base → base.Ns mainGlobals mg → FnG l.prog w (K w.params) mg base k fa fd [x] (sp (K w.params)))
    (ask : ∀ (K : PySem.W.Frag) (H : Hp) (a : Addr) (ns : List Int), ns.length ≤ n → SqL K H a (ns.map V.int) → sp K [.ref a] H (fun v _ => v = .bl true) E0) :
    PySem.W.WalkO q loose XP YP l.row.toRowW d [] (fun f vs => PySem.call f vs) := by
  refine Att.attach_call most plain fun w t0 t1 mg mb fa ob pm cd doc a us ns top Y h1 h2 h3 named obj his len nogen => ?_
  have kin := inY w _ Y
  obtain ⟨fd, binds, kept⟩ := F w mg fa _ kin top.T.g named
  have rel := vals_ints his
  obtain ⟨S, hS⟩ : ∃ S : Obj, S = { cls := .type "list", data := .seq us.toArray } := ⟨_, rfl⟩
  rw [← hS] at obj
  -- the script is tracked unless it is one of the objects that the top has written
  obtain ⟨H, hH⟩ : ∃ H : Hp, H = fun b => if b = a ∧ (K w.params).lookup a = none then some (.frz S (.lst (ns.map V.int))) else none := ⟨_, rfl⟩
  have only : ∀ b u, H b = some u → b = a ∧ (K w.params).lookup a = none ∧ u = .frz S (.lst (ns.map V.int)) := fun b u e => by
    rw [hH] at e
    by_cases c : b = a ∧ (K w.params).lookup a = none
    · exact ⟨c.1, c.2, (Option.some.inj ((if_pos c).symm.trans e)).symm⟩
    · exact absurd ((if_neg c).symm.trans e) (by simp)
  have none_of : ∀ b, (∀ u, H b ≠ some u) → H b = none := fun b z => by
    cases e : H b with
    | none => rfl
    | some u => exact absurd e (z u)
  have written : ∀ {b : Addr} {o : Obj}, (K w.params).lookup b = some o → H b = none := fun {b o} e => none_of b fun u z => by
    obtain ⟨rfl, c, _⟩ := only b u z
    rw [c] at e
    cases e
  have space : ∀ {b : Addr} {m : Str → Option Value}, t1.heap.Ns b m → (hidT t1.heap H).Ns b m := fun {b m} ⟨o, es, ep, g, dd, r⟩ => by
    refine ⟨o, es, ep, hidT_get g (none_of b fun u z => ?_), dd, r⟩
    obtain ⟨rfl, _, _⟩ := only b u z
    rw [obj] at g
    obtain rfl := Option.some.inj g
    rw [hS] at dd
    exact Data.noConfusion dd
  have inH : (K w.params).In (hidT t1.heap H) := fun b o e => hidT_get (kin b o e) (written e)
  have ok : HOk l.prog w H t1.heap := fun b u z => by
    obtain ⟨rfl, _, rfl⟩ := only b u z
    exact ⟨obj, by rw [List.length_map]; exact Nat.le_trans len fits, us, _, rel, by rw [obj, hS]⟩
  have mod : Mod (K w.params) mg (hidT t1.heap H) := { kin := inH, glob := space top.T.g, blt := ⟨mb, space top.T.b, top.T.builtins⟩, nolimit := let ⟨mc, p1, p2⟩ := top.T.nolimit; ⟨mc, space p1, p2⟩ }
  have env : Env0 l.prog w (K w.params) mg (hidT t1.heap H) callerA [] t1 H := { frames := rfl, mod := mod, bs := fun _ _ z => of_hidT z, bsz := Nat.le_of_eq (hidT_size _ _), funs := trivial, frf := fun _ z => absurd z (by simp [frs]), hok := ok, bare := .of_eq nogen }
  have seq : SqL (K w.params) H a (ns.map V.int) := by
    cases c : (K w.params).lookup a with
    | none => exact .inl (.inr ⟨S, by rw [hH]; exact if_pos ⟨rfl, c⟩⟩)
    | some o =>
      have g := kin a o c
      rw [obj] at g
      obtain rfl := Option.some.inj g
      rw [hS] at c
      exact .inr ⟨_, us.toArray, _, c, rfl, rfl, rfl, by rw [List.size_toArray, his.length]; exact Nat.le_trans len fits, rel⟩
  refine codeAny_mono ((kept _ inH (space top.T.g)).run callerA [] t1 H ⟨[.ref a], []⟩ [.ref a] [.ref a] (fun v _ => v = .bl true) E0 room free env (binds t1 (.ref a)) (.cons rfl .nil) (ask _ H a ns len seq)) fun r t2 z => ?_
  match r, z with
  | .ok (.ret u), ⟨v, H', os, bare, un, ok', rv, ev⟩ =>
    have ev' : v = .bl true := ev
    rw [ev'] at rv
    obtain rfl : u = Value.bool true := rv
    refine ⟨rfl, OldK.of_keep fun b o e => ?_, os, bare⟩
    by_cases c : ∃ y, H b = some y
    · obtain ⟨y, hy⟩ := c
      obtain ⟨rfl, _, rfl⟩ := only b y hy
      rw [obj] at e
      rw [← Option.some.inj e]
      exact (ok' b _ (un.frzs b S _ hy)).1
    · exact un.keep b o e (none_of b fun y hy => c ⟨y, hy⟩) (by intro z; simp [frs] at z) (by simp)
theorem kit_no {K : PySem.W.Frag} {C : Addr} {t : Value} (ne : (t == Value.ref C) = false) (i : PySem.W.isClsIn K C = true) (ty : PySem.W.typeIn K (.ref C) = some (.type "type")) (s : PySem.W.subIn K t (.ref C) = some false) : PySem.W.kitOne K t (.ref C) = some false := by
  have j : (PySem.W.clsIn K C).isSome = true := i
  have both : ((PySem.W.clsIn K C).isSome && PySem.W.typeIn K (.ref C) == some (.type "type")) = true := by
    rw [j, ty]
    rfl
  show (if (t == Value.ref C) = true then some true else if ((PySem.W.clsIn K C).isSome && PySem.W.typeIn K (.ref C) == some (.type "type")) = true then PySem.W.subIn K t (.ref C) else none) = some false
  rw [ne, if_neg Bool.false_ne_true, if_pos both]
  exact s
theorem sc_get_rights : FnScope ["self"] ["self"] (defScope (inClass (top 11) 5)) := ⟨rfl, rfl, rfl, by decide +kernel, rfl, by decide +kernel, by decide +kernel⟩
theorem sc_get_lefts : FnScope ["self"] ["self"] (defScope (inClass (top 11) 6)) := ⟨rfl, rfl, rfl, by decide +kernel, rfl, by decide +kernel, by decide +kernel⟩
theorem sc_get_places : FnScope ["self"] ["self"] (defScope (inClass (top 11) 7)) := ⟨rfl, rfl, rfl, by decide +kernel, rfl, by decide +kernel, by decide +kernel⟩
theorem sc_get_table : FnScope ["self"] ["self"] (defScope (inClass (top 11) 8)) := ⟨rfl, rfl, rfl, by decide +kernel, rfl, by decide +kernel, by decide +kernel⟩
/-- what the top has left, and the law kept over it -/
theorem all_mk {l : PySem.W.OpenLaw} {w : World} {K : PySem.W.Frag} {h : Heap} {mg : Str → Option Value} {fa C f_ni f_nu f_cw f_wp f_ww f_wc f_po f_mx f_fo f_dr f_be f_so f_ne f_wa f_pn f_re f_sh f_pr f_er f_la m_in m_le m_eq m_al m_cl m_ck p_rights p_lefts p_places p_table g_rights g_lefts g_places g_table : Addr} (X : K.In h) (G : h.Ns mainGlobals mg) (hfa : mg "law" = some (.ref fa))
    {od_ni od_nu od_cw od_wp od_ww od_wc od_po od_mx od_fo od_dr od_be od_so od_ne od_wa od_pn od_re od_sh od_pr od_er od_la od_min od_mle od_meq od_mal od_mcl od_mck od_grights od_glefts od_gplaces od_gtable an_ni an_nu an_cw an_wp an_ww an_wc an_po an_mx an_fo an_dr an_be an_so an_ne an_wa an_pn an_re an_sh an_pr an_er an_la an_min an_mle an_meq an_mal an_mcl an_mck an_grights an_glefts an_gplaces an_gtable : Option Addr} {sl_ni sl_nu sl_cw sl_wp sl_ww sl_wc sl_po sl_mx sl_fo sl_dr sl_be sl_so sl_ne sl_wa sl_pn sl_re sl_sh sl_pr sl_er sl_la sl_min sl_mle sl_meq sl_mal sl_mcl sl_mck sl_grights sl_glefts sl_gplaces sl_gtable : Array (Option Value)} {oc_ni kv_ni dc_ni pm_ni cd_ni ct_ni oc_nu kv_nu dc_nu pm_nu cd_nu ct_nu oc_cw kv_cw dc_cw pm_cw cd_cw ct_cw oc_wp kv_wp dc_wp pm_wp cd_wp ct_wp oc_ww kv_ww dc_ww pm_ww cd_ww ct_ww oc_wc kv_wc dc_wc pm_wc cd_wc ct_wc oc_po kv_po dc_po pm_po cd_po ct_po oc_mx kv_mx dc_mx pm_mx cd_mx ct_mx oc_fo kv_fo dc_fo pm_fo cd_fo ct_fo oc_dr kv_dr dc_dr pm_dr cd_dr ct_dr oc_be kv_be dc_be pm_be cd_be ct_be oc_so kv_so dc_so pm_so cd_so ct_so oc_ne kv_ne dc_ne pm_ne cd_ne ct_ne oc_wa kv_wa dc_wa pm_wa cd_wa ct_wa oc_pn kv_pn dc_pn pm_pn cd_pn ct_pn oc_re kv_re dc_re pm_re cd_re ct_re oc_sh kv_sh dc_sh pm_sh cd_sh ct_sh oc_pr kv_pr dc_pr pm_pr cd_pr ct_pr oc_er kv_er dc_er pm_er cd_er ct_er oc_la kv_la dc_la pm_la cd_la ct_la oc_min kv_min dc_min pm_min cd_min ct_min oc_mle kv_mle dc_mle pm_mle cd_mle ct_mle oc_meq kv_meq dc_meq pm_meq cd_meq ct_meq oc_mal kv_mal dc_mal pm_mal cd_mal ct_mal oc_mcl kv_mcl dc_mcl pm_mcl cd_mcl ct_mcl oc_mck kv_mck dc_mck pm_mck cd_mck ct_mck oc_grights kv_grights dc_grights pm_grights cd_grights ct_grights oc_glefts kv_glefts dc_glefts pm_glefts cd_glefts ct_glefts oc_gplaces kv_gplaces dc_gplaces pm_gplaces cd_gplaces ct_gplaces oc_gtable kv_gtable dc_gtable pm_gtable cd_gtable ct_gtable : Value} {rr_rights rr_lefts rr_places rr_table : List Value} {t6 t12 u6 u12 : Tok}
    (aC : PySem.W.nsIn K mainGlobals "Way" = some (some (.ref C)))
    (a_ni : PySem.W.nsIn K mainGlobals "is_int" = some (some (.ref f_ni)))
    (l_ni : K.lookup f_ni = some ⟨oc_ni, od_ni, .func (PySem.W.fnOf "is_int" "is_int" (defArgs s_is_int) (defBody s_is_int) (defScope s_is_int) .none kv_ni dc_ni pm_ni an_ni cd_ni ct_ni), sl_ni⟩)
    (c_ni : PySem.W.codeIn K cd_ni "is_int" = true)
    (k_ni : PySem.W.keepIn K (.ref f_ni) = true)
    (a_nu : PySem.W.nsIn K mainGlobals "is_number" = some (some (.ref f_nu)))
    (l_nu : K.lookup f_nu = some ⟨oc_nu, od_nu, .func (PySem.W.fnOf "is_number" "is_number" (defArgs s_is_number) (defBody s_is_number) (defScope s_is_number) .none kv_nu dc_nu pm_nu an_nu cd_nu ct_nu), sl_nu⟩)
    (c_nu : PySem.W.codeIn K cd_nu "is_number" = true)
    (k_nu : PySem.W.keepIn K (.ref f_nu) = true)
    (a_cw : PySem.W.nsIn K mainGlobals "check_walker" = some (some (.ref f_cw)))
    (l_cw : K.lookup f_cw = some ⟨oc_cw, od_cw, .func (PySem.W.fnOf "check_walker" "check_walker" (defArgs s_check_walker) (defBody s_check_walker) (defScope s_check_walker) .none kv_cw dc_cw pm_cw an_cw cd_cw ct_cw), sl_cw⟩)
    (c_cw : PySem.W.codeIn K cd_cw "check_walker" = true)
    (k_cw : PySem.W.keepIn K (.ref f_cw) = true)
    (a_wp : PySem.W.nsIn K mainGlobals "wrong_part" = some (some (.ref f_wp)))
    (l_wp : K.lookup f_wp = some ⟨oc_wp, od_wp, .func (PySem.W.fnOf "wrong_part" "wrong_part" (defArgs s_wrong_part) (defBody s_wrong_part) (defScope s_wrong_part) .none kv_wp dc_wp pm_wp an_wp cd_wp ct_wp), sl_wp⟩)
    (c_wp : PySem.W.codeIn K cd_wp "wrong_part" = true)
    (k_wp : PySem.W.keepIn K (.ref f_wp) = true)
    (a_ww : PySem.W.nsIn K mainGlobals "way_with" = some (some (.ref f_ww)))
    (l_ww : K.lookup f_ww = some ⟨oc_ww, od_ww, .func (PySem.W.fnOf "way_with" "way_with" (defArgs s_way_with) (defBody s_way_with) (defScope s_way_with) .none kv_ww dc_ww pm_ww an_ww cd_ww ct_ww), sl_ww⟩)
    (c_ww : PySem.W.codeIn K cd_ww "way_with" = true)
    (k_ww : PySem.W.keepIn K (.ref f_ww) = true)
    (a_wc : PySem.W.nsIn K mainGlobals "with_cell" = some (some (.ref f_wc)))
    (l_wc : K.lookup f_wc = some ⟨oc_wc, od_wc, .func (PySem.W.fnOf "with_cell" "with_cell" (defArgs s_with_cell) (defBody s_with_cell) (defScope s_with_cell) .none kv_wc dc_wc pm_wc an_wc cd_wc ct_wc), sl_wc⟩)
    (c_wc : PySem.W.codeIn K cd_wc "with_cell" = true)
    (k_wc : PySem.W.keepIn K (.ref f_wc) = true)
    (a_po : PySem.W.nsIn K mainGlobals "pairs_of" = some (some (.ref f_po)))
    (l_po : K.lookup f_po = some ⟨oc_po, od_po, .func (PySem.W.fnOf "pairs_of" "pairs_of" (defArgs s_pairs_of) (defBody s_pairs_of) (defScope s_pairs_of) .none kv_po dc_po pm_po an_po cd_po ct_po), sl_po⟩)
    (c_po : PySem.W.codeIn K cd_po "pairs_of" = true)
    (k_po : PySem.W.keepIn K (.ref f_po) = true)
    (a_mx : PySem.W.nsIn K mainGlobals "_law_mixed" = some (some (.ref f_mx)))
    (l_mx : K.lookup f_mx = some ⟨oc_mx, od_mx, .func (PySem.W.fnOf "_law_mixed" "_law_mixed" (defArgs s__law_mixed) (defBody s__law_mixed) (defScope s__law_mixed) .none kv_mx dc_mx pm_mx an_mx cd_mx ct_mx), sl_mx⟩)
    (c_mx : PySem.W.codeIn K cd_mx "_law_mixed" = true)
    (k_mx : PySem.W.keepIn K (.ref f_mx) = true)
    (a_fo : PySem.W.nsIn K mainGlobals "_law_folded" = some (some (.ref f_fo)))
    (l_fo : K.lookup f_fo = some ⟨oc_fo, od_fo, .func (PySem.W.fnOf "_law_folded" "_law_folded" (defArgs s__law_folded) (defBody s__law_folded) (defScope s__law_folded) .none kv_fo dc_fo pm_fo an_fo cd_fo ct_fo), sl_fo⟩)
    (c_fo : PySem.W.codeIn K cd_fo "_law_folded" = true)
    (k_fo : PySem.W.keepIn K (.ref f_fo) = true)
    (a_dr : PySem.W.nsIn K mainGlobals "_law_draw" = some (some (.ref f_dr)))
    (l_dr : K.lookup f_dr = some ⟨oc_dr, od_dr, .func (PySem.W.fnOf "_law_draw" "_law_draw" (defArgs s__law_draw) (defBody s__law_draw) (defScope s__law_draw) .none kv_dr dc_dr pm_dr an_dr cd_dr ct_dr), sl_dr⟩)
    (c_dr : PySem.W.codeIn K cd_dr "_law_draw" = true)
    (k_dr : PySem.W.keepIn K (.ref f_dr) = true)
    (a_be : PySem.W.nsIn K mainGlobals "_law_begun" = some (some (.ref f_be)))
    (l_be : K.lookup f_be = some ⟨oc_be, od_be, .func (PySem.W.fnOf "_law_begun" "_law_begun" (defArgs s__law_begun) (defBody s__law_begun) (defScope s__law_begun) .none kv_be dc_be pm_be an_be cd_be ct_be), sl_be⟩)
    (c_be : PySem.W.codeIn K cd_be "_law_begun" = true)
    (k_be : PySem.W.keepIn K (.ref f_be) = true)
    (a_so : PySem.W.nsIn K mainGlobals "_law_some" = some (some (.ref f_so)))
    (l_so : K.lookup f_so = some ⟨oc_so, od_so, .func (PySem.W.fnOf "_law_some" "_law_some" (defArgs s__law_some) (defBody s__law_some) (defScope s__law_some) .none kv_so dc_so pm_so an_so cd_so ct_so), sl_so⟩)
    (c_so : PySem.W.codeIn K cd_so "_law_some" = true)
    (k_so : PySem.W.keepIn K (.ref f_so) = true)
    (a_ne : PySem.W.nsIn K mainGlobals "_law_net" = some (some (.ref f_ne)))
    (l_ne : K.lookup f_ne = some ⟨oc_ne, od_ne, .func (PySem.W.fnOf "_law_net" "_law_net" (defArgs s__law_net) (defBody s__law_net) (defScope s__law_net) .none kv_ne dc_ne pm_ne an_ne cd_ne ct_ne), sl_ne⟩)
    (c_ne : PySem.W.codeIn K cd_ne "_law_net" = true)
    (k_ne : PySem.W.keepIn K (.ref f_ne) = true)
    (a_wa : PySem.W.nsIn K mainGlobals "_law_way" = some (some (.ref f_wa)))
    (l_wa : K.lookup f_wa = some ⟨oc_wa, od_wa, .func (PySem.W.fnOf "_law_way" "_law_way" (defArgs s__law_way) (defBody s__law_way) (defScope s__law_way) .none kv_wa dc_wa pm_wa an_wa cd_wa ct_wa), sl_wa⟩)
    (c_wa : PySem.W.codeIn K cd_wa "_law_way" = true)
    (k_wa : PySem.W.keepIn K (.ref f_wa) = true)
    (a_pn : PySem.W.nsIn K mainGlobals "_law_pairs" = some (some (.ref f_pn)))
    (l_pn : K.lookup f_pn = some ⟨oc_pn, od_pn, .func (PySem.W.fnOf "_law_pairs" "_law_pairs" (defArgs s__law_pairs) (defBody s__law_pairs) (defScope s__law_pairs) .none kv_pn dc_pn pm_pn an_pn cd_pn ct_pn), sl_pn⟩)
    (c_pn : PySem.W.codeIn K cd_pn "_law_pairs" = true)
    (k_pn : PySem.W.keepIn K (.ref f_pn) = true)
    (a_re : PySem.W.nsIn K mainGlobals "_law_read" = some (some (.ref f_re)))
    (l_re : K.lookup f_re = some ⟨oc_re, od_re, .func (PySem.W.fnOf "_law_read" "_law_read" (defArgs s__law_read) (defBody s__law_read) (defScope s__law_read) .none kv_re dc_re pm_re an_re cd_re ct_re), sl_re⟩)
    (c_re : PySem.W.codeIn K cd_re "_law_read" = true)
    (k_re : PySem.W.keepIn K (.ref f_re) = true)
    (a_sh : PySem.W.nsIn K mainGlobals "_law_shown" = some (some (.ref f_sh)))
    (l_sh : K.lookup f_sh = some ⟨oc_sh, od_sh, .func (PySem.W.fnOf "_law_shown" "_law_shown" (defArgs s__law_shown) (defBody s__law_shown) (defScope s__law_shown) .none kv_sh dc_sh pm_sh an_sh cd_sh ct_sh), sl_sh⟩)
    (c_sh : PySem.W.codeIn K cd_sh "_law_shown" = true)
    (k_sh : PySem.W.keepIn K (.ref f_sh) = true)
    (a_pr : PySem.W.nsIn K mainGlobals "_law_pairs_right" = some (some (.ref f_pr)))
    (l_pr : K.lookup f_pr = some ⟨oc_pr, od_pr, .func (PySem.W.fnOf "_law_pairs_right" "_law_pairs_right" (defArgs s__law_pairs_right) (defBody s__law_pairs_right) (defScope s__law_pairs_right) .none kv_pr dc_pr pm_pr an_pr cd_pr ct_pr), sl_pr⟩)
    (c_pr : PySem.W.codeIn K cd_pr "_law_pairs_right" = true)
    (k_pr : PySem.W.keepIn K (.ref f_pr) = true)
    (a_er : PySem.W.nsIn K mainGlobals "_law_equal_right" = some (some (.ref f_er)))
    (l_er : K.lookup f_er = some ⟨oc_er, od_er, .func (PySem.W.fnOf "_law_equal_right" "_law_equal_right" (defArgs s__law_equal_right) (defBody s__law_equal_right) (defScope s__law_equal_right) .none kv_er dc_er pm_er an_er cd_er ct_er), sl_er⟩)
    (c_er : PySem.W.codeIn K cd_er "_law_equal_right" = true)
    (k_er : PySem.W.keepIn K (.ref f_er) = true)
    (a_la : PySem.W.nsIn K mainGlobals "law" = some (some (.ref f_la)))
    (l_la : K.lookup f_la = some ⟨oc_la, od_la, .func (PySem.W.fnOf "law" "law" (defArgs s_law) (defBody s_law) (defScope s_law) .none kv_la dc_la pm_la an_la cd_la ct_la), sl_la⟩)
    (c_la : PySem.W.codeIn K cd_la "law" = true)
    (k_la : PySem.W.keepIn K (.ref f_la) = true)
    (ma_in : PySem.W.findIn K (.ref C) "__init__" = some (some (.ref m_in)))
    (mi_in : PySem.W.isFn K (.ref m_in) = true)
    (ml_in : K.lookup m_in = some ⟨oc_min, od_min, .func (PySem.W.fnOf "__init__" "Way.__init__" (defArgs s_Way_init) (defBody s_Way_init) (defScope s_Way_init) .none kv_min dc_min pm_min an_min cd_min ct_min), sl_min⟩)
    (mc_in : PySem.W.codeIn K cd_min "Way.__init__" = true)
    (mk_in : PySem.W.keepIn K (.ref m_in) = true)
    (ma_le : PySem.W.findIn K (.ref C) "__len__" = some (some (.ref m_le)))
    (mi_le : PySem.W.isFn K (.ref m_le) = true)
    (ml_le : K.lookup m_le = some ⟨oc_mle, od_mle, .func (PySem.W.fnOf "__len__" "Way.__len__" (defArgs s_len) (defBody s_len) (defScope s_len) .none kv_mle dc_mle pm_mle an_mle cd_mle ct_mle), sl_mle⟩)
    (mc_le : PySem.W.codeIn K cd_mle "Way.__len__" = true)
    (mk_le : PySem.W.keepIn K (.ref m_le) = true)
    (ma_eq : PySem.W.findIn K (.ref C) "__eq__" = some (some (.ref m_eq)))
    (mi_eq : PySem.W.isFn K (.ref m_eq) = true)
    (ml_eq : K.lookup m_eq = some ⟨oc_meq, od_meq, .func (PySem.W.fnOf "__eq__" "Way.__eq__" (defArgs s_eq) (defBody s_eq) (defScope s_eq) .none kv_meq dc_meq pm_meq an_meq cd_meq ct_meq), sl_meq⟩)
    (mc_eq : PySem.W.codeIn K cd_meq "Way.__eq__" = true)
    (mk_eq : PySem.W.keepIn K (.ref m_eq) = true)
    (ma_al : PySem.W.findIn K (.ref C) "allowed" = some (some (.ref m_al)))
    (mi_al : PySem.W.isFn K (.ref m_al) = true)
    (ml_al : K.lookup m_al = some ⟨oc_mal, od_mal, .func (PySem.W.fnOf "allowed" "Way.allowed" (defArgs s_allowed) (defBody s_allowed) (defScope s_allowed) .none kv_mal dc_mal pm_mal an_mal cd_mal ct_mal), sl_mal⟩)
    (mc_al : PySem.W.codeIn K cd_mal "Way.allowed" = true)
    (mk_al : PySem.W.keepIn K (.ref m_al) = true)
    (ma_cl : PySem.W.findIn K (.ref C) "closing" = some (some (.ref m_cl)))
    (mi_cl : PySem.W.isFn K (.ref m_cl) = true)
    (ml_cl : K.lookup m_cl = some ⟨oc_mcl, od_mcl, .func (PySem.W.fnOf "closing" "Way.closing" (defArgs s_closing) (defBody s_closing) (defScope s_closing) .none kv_mcl dc_mcl pm_mcl an_mcl cd_mcl ct_mcl), sl_mcl⟩)
    (mc_cl : PySem.W.codeIn K cd_mcl "Way.closing" = true)
    (mk_cl : PySem.W.keepIn K (.ref m_cl) = true)
    (ma_ck : PySem.W.findIn K (.ref C) "_checked_places" = some (some (.ref m_ck)))
    (mi_ck : PySem.W.isFn K (.ref m_ck) = true)
    (ml_ck : K.lookup m_ck = some ⟨oc_mck, od_mck, .func (PySem.W.fnOf "_checked_places" "Way._checked_places" (defArgs s_checked) (defBody s_checked) (defScope s_checked) .none kv_mck dc_mck pm_mck an_mck cd_mck ct_mck), sl_mck⟩)
    (mc_ck : PySem.W.codeIn K cd_mck "Way._checked_places" = true)
    (mk_ck : PySem.W.keepIn K (.ref m_ck) = true)
    (pa_rights : PySem.W.findIn K (.ref C) "rights" = some (some (.ref p_rights)))
    (pg_rights : PySem.W.specialIn K (.ref p_rights) "__get__" = some (some (.builtin "property.__get__")))
    (pt_rights : PySem.W.takesIn K (.ref p_rights) = some true)
    (pr_rights : PySem.W.recIn K p_rights "property" = some (.ref g_rights :: rr_rights))
    (pl_rights : K.lookup g_rights = some ⟨oc_grights, od_grights, .func (PySem.W.fnOf "rights" "Way.rights" (defArgs (inClass (top 11) 5)) (defBody (inClass (top 11) 5)) (defScope (inClass (top 11) 5)) .none kv_grights dc_grights pm_grights an_grights cd_grights ct_grights), sl_grights⟩)
    (pc_rights : PySem.W.codeIn K cd_grights "Way.rights" = true)
    (nn_rights : PySem.W.findIn K (.ref C) "_rights" = some none)
    (pa_lefts : PySem.W.findIn K (.ref C) "lefts" = some (some (.ref p_lefts)))
    (pg_lefts : PySem.W.specialIn K (.ref p_lefts) "__get__" = some (some (.builtin "property.__get__")))
    (pt_lefts : PySem.W.takesIn K (.ref p_lefts) = some true)
    (pr_lefts : PySem.W.recIn K p_lefts "property" = some (.ref g_lefts :: rr_lefts))
    (pl_lefts : K.lookup g_lefts = some ⟨oc_glefts, od_glefts, .func (PySem.W.fnOf "lefts" "Way.lefts" (defArgs (inClass (top 11) 6)) (defBody (inClass (top 11) 6)) (defScope (inClass (top 11) 6)) .none kv_glefts dc_glefts pm_glefts an_glefts cd_glefts ct_glefts), sl_glefts⟩)
    (pc_lefts : PySem.W.codeIn K cd_glefts "Way.lefts" = true)
    (nn_lefts : PySem.W.findIn K (.ref C) "_lefts" = some none)
    (pa_places : PySem.W.findIn K (.ref C) "places" = some (some (.ref p_places)))
    (pg_places : PySem.W.specialIn K (.ref p_places) "__get__" = some (some (.builtin "property.__get__")))
    (pt_places : PySem.W.takesIn K (.ref p_places) = some true)
    (pr_places : PySem.W.recIn K p_places "property" = some (.ref g_places :: rr_places))
    (pl_places : K.lookup g_places = some ⟨oc_gplaces, od_gplaces, .func (PySem.W.fnOf "places" "Way.places" (defArgs (inClass (top 11) 7)) (defBody (inClass (top 11) 7)) (defScope (inClass (top 11) 7)) .none kv_gplaces dc_gplaces pm_gplaces an_gplaces cd_gplaces ct_gplaces), sl_gplaces⟩)
    (pc_places : PySem.W.codeIn K cd_gplaces "Way.places" = true)
    (nn_places : PySem.W.findIn K (.ref C) "_places" = some none)
    (pa_table : PySem.W.findIn K (.ref C) "table" = some (some (.ref p_table)))
    (pg_table : PySem.W.specialIn K (.ref p_table) "__get__" = some (some (.builtin "property.__get__")))
    (pt_table : PySem.W.takesIn K (.ref p_table) = some true)
    (pr_table : PySem.W.recIn K p_table "property" = some (.ref g_table :: rr_table))
    (pl_table : K.lookup g_table = some ⟨oc_gtable, od_gtable, .func (PySem.W.fnOf "table" "Way.table" (defArgs (inClass (top 11) 8)) (defBody (inClass (top 11) 8)) (defScope (inClass (top 11) 8)) .none kv_gtable dc_gtable pm_gtable an_gtable cd_gtable ct_gtable), sl_gtable⟩)
    (pc_table : PySem.W.codeIn K cd_gtable "Way.table" = true)
    (nn_table : PySem.W.findIn K (.ref C) "_table" = some none)
    (x_ic : PySem.W.isClsIn K C = true)
    (x_ty : PySem.W.typeIn K (.ref C) = some (.type "type"))
    (x_pg : PySem.W.plainGet K C Str.empty = true)
    (x_hd : PySem.W.hasDictIn K C = true)
    (x_po : PySem.W.plainOver K C = true)
    (x_sa : PySem.W.findIn K (.ref C) "__setattr__" = some (some (.builtin "object.__setattr__")))
    (x_mk : PySem.W.makesIn K C = true)
    (x_kc : PySem.W.keepIn K (.ref C) = true)
    (x_ca : PySem.W.findIn K (.ref C) "__class__" = some (some (.builtin "object.__class__")))
    (x_cn : PySem.W.specialIn K (.builtin "object.__class__") "__get__" = some (some (.builtin "getset_descriptor.__get__")))
    (x_ct : PySem.W.takesIn K (.builtin "object.__class__") = some true)
    (x_cm : PySem.W.mroIn K C (.type "object") = some true)
    (x_ne : PySem.W.findIn K (.ref C) "__ne__" = some (some (.builtin "object.__ne__")))
    (v_6 : PySem.W.findCls K (.ref C) (.type "type") "MAX_WALKERS" = some (.val (.int 6 t6)))
    (v_12 : PySem.W.findCls K (.ref C) (.type "type") "MAX_PLACES" = some (.val (.int 12 t12)))
    (v_rd : PySem.W.readsIn K C (.type "type") = true)
    (v_ga : PySem.W.specialIn K (.ref C) "__getattribute__" = some (some (.builtin "type.__getattribute__")))
    (w_6 : PySem.W.findIn K (.ref C) "MAX_WALKERS" = some (some (.int 6 u6)))
    (w_12 : PySem.W.findIn K (.ref C) "MAX_PLACES" = some (some (.int 12 u12)))
    (w_g6 : PySem.W.specialIn K (.int 6 u6) "__get__" = some none)
    (w_g12 : PySem.W.specialIn K (.int 12 u12) "__get__" = some none)
    (z_range : PySem.W.nsIn K mainGlobals "range" = some none)
    (z_enumerate : PySem.W.nsIn K mainGlobals "enumerate" = some none)
    (z_len : PySem.W.nsIn K mainGlobals "len" = some none)
    (z_tuple : PySem.W.nsIn K mainGlobals "tuple" = some none)
    (z_max : PySem.W.nsIn K mainGlobals "max" = some none)
    (z_min : PySem.W.nsIn K mainGlobals "min" = some none)
    (z_repr : PySem.W.nsIn K mainGlobals "repr" = some none)
    (z_zip : PySem.W.nsIn K mainGlobals "zip" = some none)
    (z_isinstance : PySem.W.nsIn K mainGlobals "isinstance" = some none)
    (z_bool : PySem.W.nsIn K mainGlobals "bool" = some none)
    (z_int : PySem.W.nsIn K mainGlobals "int" = some none)
    (n_no : PySem.W.notFirst K C (.type "NoneType") = true)
    (o_no : PySem.W.subIn K (.type "NoneType") (.ref C) = some false)
    (n_tu : PySem.W.notFirst K C (.type "tuple") = true)
    (o_tu : PySem.W.subIn K (.type "tuple") (.ref C) = some false)
    (n_it : PySem.W.notFirst K C (.type "int") = true)
    (o_it : PySem.W.subIn K (.type "int") (.ref C) = some false)
    (n_st : PySem.W.notFirst K C (.type "str") = true)
    (o_st : PySem.W.subIn K (.type "str") (.ref C) = some false)
    (n_ls : PySem.W.notFirst K C (.type "list") = true)
    (o_ls : PySem.W.subIn K (.type "list") (.ref C) = some false)
    (n_dc : PySem.W.notFirst K C (.type "dict") = true)
    (o_dc : PySem.W.subIn K (.type "dict") (.ref C) = some false)
    : ∃ fd : FuncData, (∀ (s : Shared) (v : Value), BindsTo s fd ⟨[v], []⟩ [("_law_script", v)]) ∧ ∀ base : Heap, K.In base → base.Ns mainGlobals mg → FnG l.prog w K mg base 10 fa fd ["_law_script"] (spLaw K) := by
  have e := hfa.symm.trans (PySem.W.mg_of X G a_la)
  cases e
  have mC := PySem.W.mg_of X G aC
  have B : Bt mg := ⟨PySem.W.mg_none_of X G z_range, PySem.W.mg_none_of X G z_enumerate, PySem.W.mg_none_of X G z_len, PySem.W.mg_none_of X G z_tuple, PySem.W.mg_none_of X G z_max, PySem.W.mg_none_of X G z_min, PySem.W.mg_none_of X G z_repr, PySem.W.mg_none_of X G z_zip⟩
  have B2 : Bw mg := ⟨PySem.W.mg_none_of X G z_isinstance, PySem.W.mg_none_of X G z_bool, PySem.W.mg_none_of X G z_int⟩
  have cls : Cls K C := ⟨x_pg, x_hd, x_po, x_sa⟩
  have T : Wt K mg C := ⟨cls, nn_rights, nn_lefts, nn_places, nn_table, mC, .type "type", t6, t12, ⟨v_rd, v_ga⟩, ⟨v_6, ⟨_, rfl⟩⟩, ⟨v_12, ⟨_, rfl⟩⟩⟩
  have cn : Cn K C := ⟨⟨_, w_6, ⟨_, rfl⟩, w_g6, by decide +kernel⟩, ⟨_, w_12, ⟨_, rfl⟩, w_g12, by decide +kernel⟩⟩
  have O : Od K C := ⟨⟨n_no, kit_no rfl x_ic x_ty o_no⟩, ⟨n_tu, kit_no rfl x_ic x_ty o_tu⟩, ⟨n_it, kit_no rfl x_ic x_ty o_it⟩, ⟨n_st, kit_no rfl x_ic x_ty o_st⟩, ⟨n_ls, kit_no rfl x_ic x_ty o_ls⟩, ⟨n_dc, kit_no rfl x_ic x_ty o_dc⟩⟩
  have F_ni := fun_mk (st := s_is_int) l_ni c_ni k_ni
  have b_ni := F_ni.binds (ps := ["value"]) fun _ _ _ _ _ _ us hl => match us, hl with | [_], _ => rfl
  have F_nu := fun_mk (st := s_is_number) l_nu c_nu k_nu
  have b_nu := F_nu.binds (ps := ["value", "low", "high"]) fun _ _ _ _ _ _ us hl => match us, hl with | [_, _, _], _ => rfl
  have F_cw := fun_mk (st := s_check_walker) l_cw c_cw k_cw
  have b_cw := F_cw.binds (ps := ["value", "walkers"]) fun _ _ _ _ _ _ us hl => match us, hl with | [_, _], _ => rfl
  have F_wp := fun_mk (st := s_wrong_part) l_wp c_wp k_wp
  have b_wp := F_wp.binds (ps := ["rights", "lefts", "places"]) fun _ _ _ _ _ _ us hl => match us, hl with | [_, _, _], _ => rfl
  have F_ww := fun_mk (st := s_way_with) l_ww c_ww k_ww
  have b_ww := F_ww.binds (ps := ["places", "table"]) fun _ _ _ _ _ _ us hl => match us, hl with | [_, _], _ => rfl
  have F_wc := fun_mk (st := s_with_cell) l_wc c_wc k_wc
  have b_wc := F_wc.binds (ps := ["table", "right", "left", "cell"]) fun _ _ _ _ _ _ us hl => match us, hl with | [_, _, _, _], _ => rfl
  have F_po := fun_mk (st := s_pairs_of) l_po c_po k_po
  have b_po := F_po.binds (ps := ["way"]) fun _ _ _ _ _ _ us hl => match us, hl with | [_], _ => rfl
  have F_mx := fun_mk (st := s__law_mixed) l_mx c_mx k_mx
  have b_mx := F_mx.binds (ps := ["_law_cell", "_law_n"]) fun _ _ _ _ _ _ us hl => match us, hl with | [_, _], _ => rfl
  have F_fo := fun_mk (st := s__law_folded) l_fo c_fo k_fo
  have b_fo := F_fo.binds (ps := ["_law_script"]) fun _ _ _ _ _ _ us hl => match us, hl with | [_], _ => rfl
  have F_dr := fun_mk (st := s__law_draw) l_dr c_dr k_dr
  have b_dr := F_dr.binds (ps := ["_law_m", "_law_top"]) fun _ _ _ _ _ _ us hl => match us, hl with | [_, _], _ => rfl
  have F_be := fun_mk (st := s__law_begun) l_be c_be k_be
  have b_be := F_be.binds (ps := ["_law_script"]) fun _ _ _ _ _ _ us hl => match us, hl with | [_], _ => rfl
  have F_so := fun_mk (st := s__law_some) l_so c_so k_so
  have b_so := F_so.binds (ps := ["_law_m", "_law_many", "_law_sparse"]) fun _ _ _ _ _ _ us hl => match us, hl with | [_, _, _], _ => rfl
  have F_ne := fun_mk (st := s__law_net) l_ne c_ne k_ne
  have b_ne := F_ne.binds (ps := ["_law_m", "_law_most", "_law_many"]) fun _ _ _ _ _ _ us hl => match us, hl with | [_, _, _], _ => rfl
  have F_wa := fun_mk (st := s__law_way) l_wa c_wa k_wa
  have b_wa := F_wa.binds (ps := ["_law_net_here"]) fun _ _ _ _ _ _ us hl => match us, hl with | [_], _ => rfl
  have F_pn := fun_mk (st := s__law_pairs) l_pn c_pn k_pn
  have b_pn := F_pn.binds (ps := ["_law_net_here"]) fun _ _ _ _ _ _ us hl => match us, hl with | [_], _ => rfl
  have F_re := fun_mk (st := s__law_read) l_re c_re k_re
  have b_re := F_re.binds (ps := ["_law_road"]) fun _ _ _ _ _ _ us hl => match us, hl with | [_], _ => rfl
  have F_sh := fun_mk (st := s__law_shown) l_sh c_sh k_sh
  have b_sh := F_sh.binds (ps := ["_law_net_here"]) fun _ _ _ _ _ _ us hl => match us, hl with | [_], _ => rfl
  have F_pr := fun_mk (st := s__law_pairs_right) l_pr c_pr k_pr
  have b_pr := F_pr.binds (ps := ["_law_net_here", "_law_road"]) fun _ _ _ _ _ _ us hl => match us, hl with | [_, _], _ => rfl
  have F_er := fun_mk (st := s__law_equal_right) l_er c_er k_er
  have b_er := F_er.binds (ps := ["_law_m", "_law_net_here", "_law_road"]) fun _ _ _ _ _ _ us hl => match us, hl with | [_, _, _], _ => rfl
  have F_la := fun_mk (st := s_law) l_la c_la k_la
  have M_in := fun_mk (st := s_Way_init) ml_in mc_in mk_in
  have d_in := M_in.binds (ps := ["self", "rights", "lefts", "places"]) fun _ _ _ _ _ _ us hl => match us, hl with | [_, _, _, _], _ => rfl
  have M_le := fun_mk (st := s_len) ml_le mc_le mk_le
  have d_le := M_le.binds (ps := ["self"]) fun _ _ _ _ _ _ us hl => match us, hl with | [_], _ => rfl
  have M_eq := fun_mk (st := s_eq) ml_eq mc_eq mk_eq
  have d_eq := M_eq.binds (ps := ["self", "other"]) fun _ _ _ _ _ _ us hl => match us, hl with | [_, _], _ => rfl
  have M_al := fun_mk (st := s_allowed) ml_al mc_al mk_al
  have d_al := M_al.binds (ps := ["self", "right", "left"]) fun _ _ _ _ _ _ us hl => match us, hl with | [_, _, _], _ => rfl
  have M_cl := fun_mk (st := s_closing) ml_cl mc_cl mk_cl
  have M_ck := fun_mk (st := s_checked) ml_ck mc_ck mk_ck
  have d_ck := M_ck.binds (ps := ["self", "values"]) fun _ _ _ _ _ _ us hl => match us, hl with | [_, _], _ => rfl
  refine ⟨PySem.W.fnOf "law" "law" (defArgs s_law) (defBody s_law) (defScope s_law) .none kv_la dc_la pm_la an_la cd_la ct_la, fun s v => .of_eq rfl, fun base _ _ => ?_⟩
  have P_rights : Pr l.prog w K mg base C "rights" "_rights" := ⟨p_rights, g_rights, _, cls, ⟨pa_rights, pg_rights, pt_rights, _, pr_rights⟩, fn_getter pl_rights pc_rights sc_get_rights rfl rfl cls nn_rights, .all fun us hl => match us, hl with | [_], _ => rfl⟩
  have P_lefts : Pr l.prog w K mg base C "lefts" "_lefts" := ⟨p_lefts, g_lefts, _, cls, ⟨pa_lefts, pg_lefts, pt_lefts, _, pr_lefts⟩, fn_getter pl_lefts pc_lefts sc_get_lefts rfl rfl cls nn_lefts, .all fun us hl => match us, hl with | [_], _ => rfl⟩
  have P_places : Pr l.prog w K mg base C "places" "_places" := ⟨p_places, g_places, _, cls, ⟨pa_places, pg_places, pt_places, _, pr_places⟩, fn_getter pl_places pc_places sc_get_places rfl rfl cls nn_places, .all fun us hl => match us, hl with | [_], _ => rfl⟩
  have P_table : Pr l.prog w K mg base C "table" "_table" := ⟨p_table, g_table, _, cls, ⟨pa_table, pg_table, pt_table, _, pr_table⟩, fn_getter pl_table pc_table sc_get_table rfl rfl cls nn_table, .all fun us hl => match us, hl with | [_], _ => rfl⟩
  have C_ni : CalO l.prog w K mg base 1 "is_int" spInt := ⟨_, _, ["value"], ok_is_int B2 F_ni, PySem.W.mg_of X G a_ni, k_ni, b_ni⟩
  have C_nu : CalO l.prog w K mg base 2 "is_number" spNum := ⟨_, _, ["value", "low", "high"], ok_is_number C_ni F_nu, PySem.W.mg_of X G a_nu, k_nu, b_nu⟩
  have C_cw : CalO l.prog w K mg base 3 "check_walker" spChk := ⟨_, _, ["value", "walkers"], ok_check_walker C_nu F_cw, PySem.W.mg_of X G a_cw, k_cw, b_cw⟩
  have C_wp : CalO l.prog w K mg base 3 "wrong_part" spWrong := ⟨_, _, ["rights", "lefts", "places"], ok_wrong T C_nu F_wp, PySem.W.mg_of X G a_wp, k_wp, b_wp⟩
  have mkW : Ma l.prog w K mg base 4 "Way" C (spInit K C) := ⟨m_in, _, ["self", "rights", "lefts", "places"], ⟨x_mk, ma_in, mi_in, x_kc⟩, ok_init B T C_wp M_in, mC, d_in⟩
  have C_ww : CalO l.prog w K mg base 6 "way_with" (spWith K C) := ⟨_, _, ["places", "table"], ok_way_with B T mkW F_ww, PySem.W.mg_of X G a_ww, k_ww, b_ww⟩
  have C_wc : CalO l.prog w K mg base 2 "with_cell" (spCell K) := ⟨_, _, ["table", "right", "left", "cell"], ok_with_cell F_wc, PySem.W.mg_of X G a_wc, k_wc, b_wc⟩
  have C_po : CalO l.prog w K mg base 4 "pairs_of" (spPairs K C) := ⟨_, _, ["way"], ok_pairs B P_rights P_lefts F_po, PySem.W.mg_of X G a_po, k_po, b_po⟩
  have meA : Meth K C "allowed" m_al := ⟨ma_al, mi_al, mk_al⟩
  have okA : FnOk l.prog w K mg base CX0 4 m_al _ ["self", "right", "left"] (spAllowed K C) := ok_allowed T C_cw M_al
  have moA : Mo l.prog w K mg base 4 C "allowed" (spAllowed K C) := ⟨m_al, _, ["self", "right", "left"], cls, meA, okA, d_al⟩
  have alk : Alk l.prog w K mg base 4 C (spAllowed K C) := alk_of cls meA M_al okA
  have moK : Mo l.prog w K mg base 3 C "_checked_places" (spChecked K C) := ⟨m_ck, _, ["self", "values"], cls, ⟨ma_ck, mi_ck, mk_ck⟩, ok_checked B T C_nu M_ck, d_ck⟩
  have clo : Clo l.prog w K mg base 7 C (spClosing K C) := clo_of cls ⟨ma_cl, mi_cl, mk_cl⟩ M_cl B T C_cw moK C_po C_wc C_ww
  have we : We l.prog w K mg base 2 5 C (spEqW K C) (spLenW K C) := ⟨cls, x_ca, x_cn, x_ct, x_cm, x_ne, ⟨m_eq, _, ma_eq, mi_eq, ok_eqW B2 T x_ca x_cn x_ct x_cm M_eq, d_eq⟩, ⟨m_le, _, ma_le, mi_le, ok_lenW B C_po M_le, d_le⟩⟩
  have C_mx : CalG l.prog w K mg base 2 "_law_mixed" spMixed := ⟨_, _, ["_law_cell", "_law_n"], ok_mixed F_mx, PySem.W.mg_of X G a_mx, k_mx, b_mx⟩
  have C_fo : CalG l.prog w K mg base 2 "_law_folded" (spFolded K) := ⟨_, _, ["_law_script"], ok_folded B F_fo, PySem.W.mg_of X G a_fo, k_fo, b_fo⟩
  have C_dr : CalG l.prog w K mg base 3 "_law_draw" spDraw := ⟨_, _, ["_law_m", "_law_top"], ok_draw B C_mx F_dr, PySem.W.mg_of X G a_dr, k_dr, b_dr⟩
  have C_be : CalG l.prog w K mg base 3 "_law_begun" (spBegun K) := ⟨_, _, ["_law_script"], ok_begun B C_fo F_be, PySem.W.mg_of X G a_be, k_be, b_be⟩
  have C_so : CalG l.prog w K mg base 4 "_law_some" spSome := ⟨_, _, ["_law_m", "_law_many", "_law_sparse"], ok_some B C_dr F_so, PySem.W.mg_of X G a_so, k_so, b_so⟩
  have C_ne : CalG l.prog w K mg base 5 "_law_net" (spNet K) := ⟨_, _, ["_law_m", "_law_most", "_law_many"], ok_net B C_dr C_so F_ne, PySem.W.mg_of X G a_ne, k_ne, b_ne⟩
  have C_wa : CalG l.prog w K mg base 8 "_law_way" (spWay K C) := ⟨_, _, ["_law_net_here"], ok_way B mkW clo F_wa, PySem.W.mg_of X G a_wa, k_wa, b_wa⟩
  have C_pn : CalG l.prog w K mg base 2 "_law_pairs" (spPairsN K) := ⟨_, _, ["_law_net_here"], ok_pairsN B F_pn, PySem.W.mg_of X G a_pn, k_pn, b_pn⟩
  have C_re : CalG l.prog w K mg base 7 "_law_read" (spRead K C) := ⟨_, _, ["_law_road"], ok_read P_rights P_lefts P_places P_table cn T B we F_re, PySem.W.mg_of X G a_re, k_re, b_re⟩
  have C_sh : CalG l.prog w K mg base 2 "_law_shown" (spShown K) := ⟨_, _, ["_law_net_here"], ok_shown B F_sh, PySem.W.mg_of X G a_sh, k_sh, b_sh⟩
  have C_pr : CalG l.prog w K mg base 5 "_law_pairs_right" (spPairsRight K C) := ⟨_, _, ["_law_net_here", "_law_road"], ok_pairs_right B C_pn moA alk F_pr, PySem.W.mg_of X G a_pr, k_pr, b_pr⟩
  have C_er : CalG l.prog w K mg base 9 "_law_equal_right" (spEqRight K C) := ⟨_, _, ["_law_m", "_law_net_here", "_law_road"], ok_equal_right B O T C_dr C_wa mkW clo P_table we F_er, PySem.W.mg_of X G a_er, k_er, b_er⟩
  exact ok_law B C_be C_dr C_ne C_wa C_re C_sh C_er C_pr mkW moA we F_la
end W2

open PySem PySem.W PyProof.Rows
set_option maxHeartbeats 0 in
theorem PySem.Challenge.cw_passplaces_k02_ways_read_holds : PySem.Challenge.rw_passplaces_k02_ways_read.Holds := by
  w_on; o_law; k_head; (case hw => w_witness2)
  k_fill
  refine W2.walkG (l := PySem.Challenge.rw_passplaces_k02_ways_read) (n := 63) (k := 10) (x := "_law_script") (sp := W2.spLaw) rfl (by decide) rfl ⟨rfl, by decide, by decide⟩ rfl (fun w h Y => PySem.W.kIn_of Y) ?F (fun K H a ns hl hS => ⟨a, ns, rfl, hS, hl, fun _ => rfl⟩)
  case F =>
    intro w mg fa h KX G hmg
    refine' W2.all_mk KX G hmg ?aC ?a_ni ?l_ni ?c_ni ?k_ni ?a_nu ?l_nu ?c_nu ?k_nu ?a_cw ?l_cw ?c_cw ?k_cw ?a_wp ?l_wp ?c_wp ?k_wp ?a_ww ?l_ww ?c_ww ?k_ww ?a_wc ?l_wc ?c_wc ?k_wc ?a_po ?l_po ?c_po ?k_po ?a_mx ?l_mx ?c_mx ?k_mx ?a_fo ?l_fo ?c_fo ?k_fo ?a_dr ?l_dr ?c_dr ?k_dr ?a_be ?l_be ?c_be ?k_be ?a_so ?l_so ?c_so ?k_so ?a_ne ?l_ne ?c_ne ?k_ne ?a_wa ?l_wa ?c_wa ?k_wa ?a_pn ?l_pn ?c_pn ?k_pn ?a_re ?l_re ?c_re ?k_re ?a_sh ?l_sh ?c_sh ?k_sh ?a_pr ?l_pr ?c_pr ?k_pr ?a_er ?l_er ?c_er ?k_er ?a_la ?l_la ?c_la ?k_la ?ma_in ?mi_in ?ml_in ?mc_in ?mk_in ?ma_le ?mi_le ?ml_le ?mc_le ?mk_le ?ma_eq ?mi_eq ?ml_eq ?mc_eq ?mk_eq ?ma_al ?mi_al ?ml_al ?mc_al ?mk_al ?ma_cl ?mi_cl ?ml_cl ?mc_cl ?mk_cl ?ma_ck ?mi_ck ?ml_ck ?mc_ck ?mk_ck ?pa_rights ?pg_rights ?pt_rights ?pr_rights ?pl_rights ?pc_rights ?nn_rights ?pa_lefts ?pg_lefts ?pt_lefts ?pr_lefts ?pl_lefts ?pc_lefts ?nn_lefts ?pa_places ?pg_places ?pt_places ?pr_places ?pl_places ?pc_places ?nn_places ?pa_table ?pg_table ?pt_table ?pr_table ?pl_table ?pc_table ?nn_table ?x_ic ?x_ty ?x_pg ?x_hd ?x_po ?x_sa ?x_mk ?x_kc ?x_ca ?x_cn ?x_ct ?x_cm ?x_ne ?v_6 ?v_12 ?v_rd ?v_ga ?w_6 ?w_12 ?w_g6 ?w_g12 ?z_range ?z_enumerate ?z_len ?z_tuple ?z_max ?z_min ?z_repr ?z_zip ?z_isinstance ?z_bool ?z_int ?n_no ?o_no ?n_tu ?o_tu ?n_it ?o_it ?n_st ?o_st ?n_ls ?o_ls ?n_dc ?o_dc
    (case aC => k_is)
    (case a_ni => k_is)
    (case l_ni => k_is)
    (case c_ni => k_is)
    (case k_ni => k_is)
    (case a_nu => k_is)
    (case l_nu => k_is)
    (case c_nu => k_is)
    (case k_nu => k_is)
    (case a_cw => k_is)
    (case l_cw => k_is)
    (case c_cw => k_is)
    (case k_cw => k_is)
    (case a_wp => k_is)
    (case l_wp => k_is)
    (case c_wp => k_is)
    (case k_wp => k_is)
    (case a_ww => k_is)
    (case l_ww => k_is)
    (case c_ww => k_is)
    (case k_ww => k_is)
    (case a_wc => k_is)
    (case l_wc => k_is)
    (case c_wc => k_is)
    (case k_wc => k_is)
    (case a_po => k_is)
    (case l_po => k_is)
    (case c_po => k_is)
    (case k_po => k_is)
    (case a_mx => k_is)
    (case l_mx => k_is)
    (case c_mx => k_is)
    (case k_mx => k_is)
    (case a_fo => k_is)
    (case l_fo => k_is)
    (case c_fo => k_is)
    (case k_fo => k_is)
    (case a_dr => k_is)
    (case l_dr => k_is)
    (case c_dr => k_is)
    (case k_dr => k_is)
    (case a_be => k_is)
    (case l_be => k_is)
    (case c_be => k_is)
    (case k_be => k_is)
    (case a_so => k_is)
    (case l_so => k_is)
    (case c_so => k_is)
    (case k_so => k_is)
    (case a_ne => k_is)
    (case l_ne => k_is)
    (case c_ne => k_is)
    (case k_ne => k_is)
    (case a_wa => k_is)
    (case l_wa => k_is)
    (case c_wa => k_is)
    (case k_wa => k_is)
    (case a_pn => k_is)
    (case l_pn => k_is)
    (case c_pn => k_is)
    (case k_pn => k_is)
    (case a_re => k_is)
    (case l_re => k_is)
    (case c_re => k_is)
    (case k_re => k_is)
    (case a_sh => k_is)
    (case l_sh => k_is)
    (case c_sh => k_is)
    (case k_sh => k_is)
    (case a_pr => k_is)
    (case l_pr => k_is)
    (case c_pr => k_is)
    (case k_pr => k_is)
    (case a_er => k_is)
    (case l_er => k_is)
    (case c_er => k_is)
    (case k_er => k_is)
    (case a_la => k_is)
    (case l_la => k_is)
    (case c_la => k_is)
    (case k_la => k_is)
    (case ma_in => k_is)
    (case mi_in => k_is)
    (case ml_in => k_is)
    (case mc_in => k_is)
    (case mk_in => k_is)
    (case ma_le => k_is)
    (case mi_le => k_is)
    (case ml_le => k_is)
    (case mc_le => k_is)
    (case mk_le => k_is)
    (case ma_eq => k_is)
    (case mi_eq => k_is)
    (case ml_eq => k_is)
    (case mc_eq => k_is)
    (case mk_eq => k_is)
    (case ma_al => k_is)
    (case mi_al => k_is)
    (case ml_al => k_is)
    (case mc_al => k_is)
    (case mk_al => k_is)
    (case ma_cl => k_is)
    (case mi_cl => k_is)
    (case ml_cl => k_is)
    (case mc_cl => k_is)
    (case mk_cl => k_is)
    (case ma_ck => k_is)
    (case mi_ck => k_is)
    (case ml_ck => k_is)
    (case mc_ck => k_is)
    (case mk_ck => k_is)
    (case pa_rights => k_is)
    (case pg_rights => k_is)
    (case pt_rights => k_is)
    (case pr_rights => k_is)
    (case pl_rights => k_is)
    (case pc_rights => k_is)
    (case nn_rights => k_is)
    (case pa_lefts => k_is)
    (case pg_lefts => k_is)
    (case pt_lefts => k_is)
    (case pr_lefts => k_is)
    (case pl_lefts => k_is)
    (case pc_lefts => k_is)
    (case nn_lefts => k_is)
    (case pa_places => k_is)
    (case pg_places => k_is)
    (case pt_places => k_is)
    (case pr_places => k_is)
    (case pl_places => k_is)
    (case pc_places => k_is)
    (case nn_places => k_is)
    (case pa_table => k_is)
    (case pg_table => k_is)
    (case pt_table => k_is)
    (case pr_table => k_is)
    (case pl_table => k_is)
    (case pc_table => k_is)
    (case nn_table => k_is)
    (case x_ic => k_is)
    (case x_ty => k_is)
    (case x_pg => k_is)
    (case x_hd => k_is)
    (case x_po => k_is)
    (case x_sa => k_is)
    (case x_mk => k_is)
    (case x_kc => k_is)
    (case x_ca => k_is)
    (case x_cn => k_is)
    (case x_ct => k_is)
    (case x_cm => k_is)
    (case x_ne => k_is)
    (case v_6 => k_is)
    (case v_12 => k_is)
    (case v_rd => k_is)
    (case v_ga => k_is)
    (case w_6 => k_is)
    (case w_12 => k_is)
    (case w_g6 => k_is)
    (case w_g12 => k_is)
    (case z_range => k_is)
    (case z_enumerate => k_is)
    (case z_len => k_is)
    (case z_tuple => k_is)
    (case z_max => k_is)
    (case z_min => k_is)
    (case z_repr => k_is)
    (case z_zip => k_is)
    (case z_isinstance => k_is)
    (case z_bool => k_is)
    (case z_int => k_is)
    (case n_no => k_is)
    (case o_no => k_is)
    (case n_tu => k_is)
    (case o_tu => k_is)
    (case n_it => k_is)
    (case o_it => k_is)
    (case n_st => k_is)
    (case o_st => k_is)
    (case n_ls => k_is)
    (case o_ls => k_is)
    (case n_dc => k_is)
    (case o_dc => k_is)
